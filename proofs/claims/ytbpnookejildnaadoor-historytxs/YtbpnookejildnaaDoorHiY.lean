/- The document's: may the event at a place come. -/
import Derived.Test.YtbpnookejildnaaDoorHiX
import Derived.Test.YtbpnookejildnaaDoorHiK
namespace Go.Proofs.YtbpnookejildnaaDoor.Hi
open Go.ChangeShapes Go.WideShapes Go.ChangeAt Go.RowKit
set_option linter.unusedVariables false
set_option maxRecDepth 100000

def mayG (tx th kd cl sp : Int) (many : Nat) (over b p nP nC : Nat) (oth ksp : Int) : Bool :=
  if kd = 7 then decide (tx = (many : Int))
  else if tx < 0 ∨ (many : Int) ≤ tx then false
  else if 0 < over ∨ oth ≠ th then false
  else if kd = 1 then decide (b = 0)
  else if kd = 2 ∨ kd = 3 then decide (b = 1 ∧ p = 0 ∧ 0 ≤ cl ∧ cl < 1024)
  else if kd = 4 then decide (b = 1 ∧ p = 0 ∧ sp = (nP : Int) + 1)
  else if kd = 5 then decide (p ≠ 0 ∧ sp = ksp ∧ sp = (nC : Int) + 1)
  else if kd = 6 then decide (b = 1 ∧ p = 0)
  else false
def mayF (at_ pat tx th kd cl sp : Int) (i many : Nat) (over b p nP nC : Nat) (oth ksp : Int) : Bool :=
  if at_ < 0 ∨ (0 < i ∧ at_ < pat) then false else mayG tx th kd cl sp many over b p nP nC oth ksp
/-- What may tells: the words about one event, by counts of those ahead. -/
def mayD (H : List Ev) (i : Nat) : Bool :=
  let e := ne H i
  mayF e.at_ (ne H (i - 1)).at_ e.tx e.th e.kd e.cl e.sp i (cntD H i 7 (-1)) (cntD H i 6 e.tx + cntD H i 5 e.tx) (cntD H i 1 e.tx) (cntD H i 4 e.tx) (cntD H i 4 (-1)) (cntD H i 5 (-1)) (ne H (fstD H 7 e.tx).toNat).th (ne H (fstD H 4 e.tx).toNat).sp
theorem fst_lt (H : List Ev) (kind tx : Int) : fstD H kind tx = -1 ∨ ∃ o : Nat, fstD H kind tx = (o : Int) ∧ o < H.length := by
  unfold fstD
  split
  · rename_i i h
    exact Or.inr ⟨i, rfl, (List.findIdx?_eq_some_iff_getElem.1 h).1⟩
  · exact Or.inl rfl
theorem fst_of_cnt {H : List Ev} {i : Nat} {kind tx : Int} (h0 : 0 ≤ tx) (h : cntD H i kind tx ≠ 0) : ∃ o : Nat, fstD H kind tx = (o : Int) ∧ o < H.length := by
  rcases fst_lt H kind tx with hf | hf
  · exfalso
    apply h
    unfold cntD
    rw [List.countP_eq_zero]
    intro e he hh
    unfold fstD at hf
    split at hf
    · rename_i j _; omega
    · rename_i hn
      rw [List.findIdx?_eq_none_iff] at hn
      have := hn e (List.mem_of_mem_take he)
      unfold hitF at this
      unfold hitB at hh
      simp at this hh
      rcases hh with ⟨h1, h2 | h2⟩
      · omega
      · exact this h1 h2
  · exact hf
theorem cell_of {w w' : World} {x : Addr} {H : List Ev} {B : Nat} (hb : Below B w w') (hB : x.block < B) (hc : ∀ i, i < H.length → ∀ j, j < 19 → w.cell? ((x.add (i * 19)).add j) = (evC (ne H i))[j]?) {i : Nat} (hi : i < H.length) : ∀ j, j < 19 → w'.cell? ((x.add (i * 19)).add j) = (evC (ne H i))[j]? := fun j hj => by
  rw [hb.cell (by rw [add_block, add_block]; exact hB)]
  exact hc i hi j hj
set_option maxHeartbeats 3200000 in
theorem may_any {w : World} {v : Value} {H : List Ev} (h : EvL w v H) {i : Nat} (hi : i < H.length) (hO : (ne H i).kd ≠ 7 → 0 ≤ (ne H i).tx → (ne H i).tx < (cntD H i 7 (-1) : Int) → ∃ o : Nat, fstD H 7 (ne H i).tx = (o : Int) ∧ o < H.length) :
    Calls Tryd.prog 24 #[v, .int .i64 (i : Int)] w fun e w' => e = .returned (.bool (mayD H i)) ∧ Below w.heap.size w w' := by
  have hEv := h
  obtain ⟨sa, cap, rfl, hm, hcap, hcs, hca, hok, hl⟩ := h
  obtain ⟨x, rfl, hxb, hcl⟩ := hl.resolve_left (by omega)
  have HCL : Hid (∀ i, i < H.length → ∀ j, j < 19 → w.cell? ((x.add (i * 19)).add j) = (evC (ne H i))[j]?) := hcl
  have HXB : Hid (x.block < w.heap.size) := hxb
  have HCELL : Hid (∀ k u, (evC (ne H i))[k]? = some u → w.cell? ((x.add (i * 19)).add k) = some u) := fun k u hu => by
    rw [hcl i hi k (List.getElem?_eq_some_iff.1 hu).1]; exact hu
  obtain ⟨z10, hs10, HE10, HB10, hz10⟩ := hnew_ev (P := Tryd.prog) (w := w) (evA_size (ne H i)) (evA_one (ne H i))
  have HB : Hid (Below w.heap.size w z10) := HB10
  have HSZ : Hid (evC (ne H i) = (evA (ne H i)).toList) := rfl
  have HSS : Hid ((Tryd.prog.info? 35).map (·.size) = some (evA (ne H i)).size) := ev_info _
  have HCT : Hid (∀ wx kind tx, Below w.heap.size w wx → Calls Tryd.prog 25 #[.slice (some x) H.length cap, .int .i64 (i : Int), .int .i64 kind, .int .i64 tx] wx fun e w' => e = .returned (.int .i64 (cntD H i kind tx : Int)) ∧ w' = wx) := fun wx kind tx hb => count_any (hEv.later hb (Nat.le_refl _)) (Nat.le_of_lt hi) kind tx
  have HFT : Hid (∀ wx kind tx, Below w.heap.size w wx → Calls Tryd.prog 26 #[.slice (some x) H.length cap, .int .i64 kind, .int .i64 tx] wx fun e w' => e = .returned (.int .i64 (fstD H kind tx)) ∧ w' = wx) := fun wx kind tx hb => first_any (hEv.later hb (Nat.le_refl _)) kind tx
  have he0 : z10.cell? ⟨w.heap.size, 0, none⟩ = some (.int .i64 (ne H i).at_) := by rw [cell_at HE10]; rfl
  have he1 : z10.cell? ⟨w.heap.size, 1, none⟩ = some (.int .i64 (ne H i).th) := by rw [cell_at HE10]; rfl
  have he2 : z10.cell? ⟨w.heap.size, 2, none⟩ = some (.int .i64 (ne H i).tx) := by rw [cell_at HE10]; rfl
  have he3 : z10.cell? ⟨w.heap.size, 3, none⟩ = some (.int .i64 (ne H i).kd) := by rw [cell_at HE10]; rfl
  have he4 : z10.cell? ⟨w.heap.size, 4, none⟩ = some (.int .i64 (ne H i).cl) := by rw [cell_at HE10]; rfl
  have he9 : z10.cell? ⟨w.heap.size, 9, none⟩ = some (.int .i64 (ne H i).sp) := by rw [cell_at HE10]; rfl
  have HPV : Hid (∀ k, i = k + 1 → z10.cell? (x.add (k * 19)) = some (.int .i64 (ne H (i - 1)).at_)) := fun k hk => by
    rw [(evl_cells (cell_of HB10 hxb hcl (i := k) (by omega))).1, hk]; rfl
  have HOT : Hid (∀ o, o < H.length → z10.cell? ⟨(x.add (o * 19)).block, (x.add (o * 19)).off + 1, none⟩ = some (.int .i64 (ne H o).th)) := fun o ho => by
    rw [(evl_cells (cell_of HB10 hxb hcl ho)).2 1 (by decide) (by decide)]; rfl
  have HOS : Hid (∀ o, o < H.length → z10.cell? ⟨(x.add (o * 19)).block, (x.add (o * 19)).off + 9, none⟩ = some (.int .i64 (ne H o).sp)) := fun o ho => by
    rw [(evl_cells (cell_of HB10 hxb hcl ho)).2 9 (by decide) (by decide)]; rfl
  have HO : Hid ((ne H i).kd ≠ 7 → 0 ≤ (ne H i).tx → (ne H i).tx < (cntD H i 7 (-1) : Int) → ∃ o : Nat, fstD H 7 (ne H i).tx = (o : Int) ∧ o < H.length) := hO
  have HP4 : Hid (0 ≤ (ne H i).tx → cntD H i 4 (ne H i).tx ≠ 0 → ∃ o : Nat, fstD H 4 (ne H i).tx = (o : Int) ∧ o < H.length) := fun h1 h2 => fst_of_cnt h1 h2
  have HCB : Hid (∀ kind tx, cntD H i kind tx ≤ 925925926000) := fun kind tx => Nat.le_trans (cnt_le _ _ _ _) (by omega)
  have HIB : Hid (i ≤ 925925926000) := by rw [Hid]; omega
  have HMD : Hid (mayD H i = _) := rfl
  unfold mayD at HMD
  rw [show mayD H i = _ from rfl]
  unfold mayD
  have hil : (i : Int) < (H.length : Int) := by omega
  have hsz19 : (evA (ne H i)).size = 19 := evA_size _
  clear hl hm hcap hcs hca hok hcl hxb hO HCL hi hEv HMD HB10
  dsimp only
  rw [HSZ.out] at HCELL
  generalize evA (ne H i) = cs at *
  generalize (ne H i).at_ = a at *
  generalize (ne H i).th = th at *
  generalize (ne H i).tx = tx at *
  generalize (ne H i).kd = kd at *
  generalize (ne H i).cl = cl at *
  generalize (ne H i).sp = sp at *
  generalize hpa : (ne H (i - 1)).at_ = pa at *
  clear hpa
  generalize hcN : cntD H i = c at *
  clear hcN
  generalize hL : H.length = L at *
  clear hL
  have HWO : Hid (wrap64 ((c 6 tx : Int) + (c 5 tx : Int)) = ((c 6 tx + c 5 tx : Nat) : Int)) := by
    have h1 : c 6 tx ≤ 925925926000 := HCB.out 6 tx
    have h2 : c 5 tx ≤ 925925926000 := HCB.out 5 tx
    have := wrap_id ((c 6 tx + c 5 tx : Nat) : Int) (by omega) (by omega)
    rw [Int.natCast_add] at this
    rw [Hid, this]
    omega
  have HWN : Hid (∀ kind, wrap64 ((c kind (-1) : Int) + 1) = (c kind (-1) : Int) + 1) := fun kind => wrap_pub _ (HCB.out _ _)
  have HWI : Hid (∀ k : Nat, i = k + 1 → wrap64 ((i : Int) - 1) = (k : Int)) := fun k hk => by
    have := HIB.out
    rw [wrap_id _ (by omega) (by omega)]
    omega
  obtain ⟨y, hy⟩ : ∃ y, y = mayF a pa tx th kd cl sp i (c 7 (-1)) (c 6 tx + c 5 tx) (c 1 tx) (c 4 tx) (c 4 (-1)) (c 5 (-1)) (ne H (fstD H 7 tx).toNat).th (ne H (fstD H 4 tx).toNat).sp := ⟨_, rfl⟩
  rw [← hy]
  have HY : Hid (y = mayF a pa tx th kd cl sp i (c 7 (-1)) (c 6 tx + c 5 tx) (c 1 tx) (c 4 tx) (c 4 (-1)) (c 5 (-1)) (ne H (fstD H 7 tx).toNat).th (ne H (fstD H 4 tx).toNat).sp) := hy
  clear hy
  go_enter Tryd.func24, Tryd.ntmps24
  go_wp2_with (first | (refine wpList_load_list (by rfl) _ _ (by rfl) (x.add (i * 19)) (by rfl) cs.toList _ HCELL.out Tryd.underlying35 (by rfl) (by simpa using HSS.out) ?_) | fail)
  by_cases ha : a < 0
  · have hd : decide (a < 0) = true := by simpa using ha
    go_quiet (fail)
    go_wp2_with fail
    go_ret
    exact ⟨by rw [HY.out]; unfold mayF; rw [if_pos (Or.inl ha)]; rfl, (by repeat (first | exact HB.out | apply below_drawn))⟩
  have hd : decide (a < 0) = false := by simpa using ha
  have hcase : (i = 0 ∧ decide (0 < (i : Int)) = false) ∨ ∃ k : Nat, i = k + 1 ∧ decide (0 < (i : Int)) = true := by
    cases i with
    | zero => exact Or.inl ⟨rfl, rfl⟩
    | succ k => exact Or.inr ⟨k, rfl, by simp⟩
  have hlate : (0 < i ∧ a < pa) ∨ ¬ (a < 0 ∨ (0 < i ∧ a < pa)) := by
    by_cases hh : 0 < i ∧ a < pa
    · exact Or.inl hh
    · exact Or.inr (fun h => h.elim ha hh)
  rcases hlate with ⟨hi0, hap⟩ | hlate
  · obtain ⟨k, hk, hdi⟩ := hcase.resolve_left (by omega)
    have hda : decide (a < pa) = true := by simpa using hap
    have hwi := HWI.out k hk
    have hpv := HPV.out k hk
    have hkl : (k : Int) < (L : Int) := by omega
    have HA : Hid (a < 0 ∨ (0 < i ∧ a < pa)) := Or.inr ⟨hi0, hap⟩
    have hdi2 : decide (0 < i) = true := by simpa using hi0
    clear hap ha hk hcase
    go_quiet (fail)
    go_wp2_with fail
    go_ret
    exact ⟨by rw [HY.out]; unfold mayF; rw [if_pos HA.out]; rfl, (by repeat (first | exact HB.out | apply below_drawn))⟩
  have HA : Hid (¬ (a < 0 ∨ (0 < i ∧ a < pa))) := hlate
  have hnl : (i = 0 ∧ decide (0 < (i : Int)) = false ∧ decide (0 < i) = false) ∨ ∃ k : Nat, 0 < i ∧ decide (0 < (i : Int)) = true ∧ decide (0 < i) = true ∧ decide (a < pa) = false ∧ wrap64 ((i : Int) - 1) = (k : Int) ∧ z10.cell? (x.add (k * 19)) = some (Value.int IntKind.i64 pa) ∧ (k : Int) < (L : Int) := by
    rcases hcase with ⟨h1, h2⟩ | ⟨k, h1, h2⟩
    · exact Or.inl ⟨h1, h2, by simp [h1]⟩
    · refine Or.inr ⟨k, by omega, h2, by simp; omega, ?_, HWI.out k h1, HPV.out k h1, by omega⟩
      simp
      have : ¬ a < pa := fun h => hlate (Or.inr ⟨by omega, h⟩)
      omega
  clear hcase hlate ha
  have HIL : Hid ((i : Int) < (L : Int)) := hil
  go_cut [35, 5, 0, 1] (fun v35 v5 v0 v1 wx => v35 = .bool false ∧ v5 = .pointer (some ⟨w.heap.size, 0, none⟩) ∧ v0 = .slice (some x) L cap ∧ v1 = .int .i64 (i : Int) ∧ ∃ n, wx = z10.drewN n)
  case first =>
    rcases hnl with ⟨h1, h2, h3⟩ | ⟨k, h1, h2, h3, h4, h5, h6, h7⟩
    · go_quiet (fail)
      go_wp2_with fail
      go_meet
      exact ⟨rfl, rfl, rfl, rfl, _, rfl⟩
    · go_quiet (fail)
      go_wp2_with fail
      go_meet
      exact ⟨rfl, rfl, rfl, rfl, _, rfl⟩
  case rest =>
    obtain ⟨rfl, rfl, rfl, rfl, n0, hn⟩ := hcut
    clear hnl hs10 HE10 hz10
    have he1 : wc.cell? ⟨w.heap.size, 1, none⟩ = some (.int .i64 th) := by rw [hn, World.cell?_drewN]; exact he1
    have he2 : wc.cell? ⟨w.heap.size, 2, none⟩ = some (.int .i64 tx) := by rw [hn, World.cell?_drewN]; exact he2
    have he3 : wc.cell? ⟨w.heap.size, 3, none⟩ = some (.int .i64 kd) := by rw [hn, World.cell?_drewN]; exact he3
    have he4 : wc.cell? ⟨w.heap.size, 4, none⟩ = some (.int .i64 cl) := by rw [hn, World.cell?_drewN]; exact he4
    have he9 : wc.cell? ⟨w.heap.size, 9, none⟩ = some (.int .i64 sp) := by rw [hn, World.cell?_drewN]; exact he9
    have HOT : Hid (∀ o, o < L → wc.cell? ⟨(x.add (o * 19)).block, (x.add (o * 19)).off + 1, none⟩ = some (.int .i64 (ne H o).th)) := fun o ho => by rw [hn, World.cell?_drewN]; exact HOT.out o ho
    have HOS : Hid (∀ o, o < L → wc.cell? ⟨(x.add (o * 19)).block, (x.add (o * 19)).off + 9, none⟩ = some (.int .i64 (ne H o).sp)) := fun o ho => by rw [hn, World.cell?_drewN]; exact HOS.out o ho
    have HB : Hid (Below w.heap.size w wc) := by rw [hn]; exact below_drawn HB.out _
    clear hn HPV he0 HCELL HSZ HSS hsz19 HWI
    go_wp2_with fail
    refine (HCT.out _ _ _ (by repeat (first | exact HB.out | apply below_drawn))).mono ?_
    rintro e w3 ⟨rfl, rfl⟩
    have HM0 : Hid (y = mayG tx th kd cl sp (c 7 (-1)) (c 6 tx + c 5 tx) (c 1 tx) (c 4 tx) (c 4 (-1)) (c 5 (-1)) (ne H (fstD H 7 tx).toNat).th (ne H (fstD H 4 tx).toNat).sp) := by
      rw [Hid, HY.out]
      unfold mayF
      exact if_neg HA.out
    clear HY
    unfold mayG at HM0
    by_cases h7 : kd = 7
    · subst h7
      rw [if_pos rfl] at HM0
      by_cases ht : tx = (c 7 (-1) : Int)
      · have hd1 : (tx == (c 7 (-1) : Int)) = true := by simpa using ht
        rw [decide_eq_true ht] at HM0
        clear ht
        go_wp2_with fail
        go_ret
        exact ⟨by rw [HM0.out]; rfl, (by repeat (first | exact HB.out | apply below_drawn))⟩
      · have hd1 : (tx == (c 7 (-1) : Int)) = false := by simpa using ht
        rw [decide_eq_false ht] at HM0
        clear ht
        go_wp2_with fail
        go_ret
        exact ⟨by rw [HM0.out]; rfl, (by repeat (first | exact HB.out | apply below_drawn))⟩
    have hd7 : (kd == 7) = false := by simpa using h7
    rw [if_neg h7] at HM0
    by_cases ht0 : tx < 0
    · have hd1 : decide (tx < 0) = true := by simpa using ht0
      rw [if_pos (Or.inl ht0)] at HM0
      clear h7
      go_wp2_with fail
      go_ret
      exact ⟨by rw [HM0.out]; rfl, (by repeat (first | exact HB.out | apply below_drawn))⟩
    have hd1 : decide (tx < 0) = false := by simpa using ht0
    by_cases ht1 : (c 7 (-1) : Int) ≤ tx
    · have hd2 : decide ((c 7 (-1) : Int) ≤ tx) = true := by simpa using ht1
      rw [if_pos (Or.inr ht1)] at HM0
      clear h7
      go_wp2_with fail
      go_ret
      exact ⟨by rw [HM0.out]; rfl, (by repeat (first | exact HB.out | apply below_drawn))⟩
    have hd2 : decide ((c 7 (-1) : Int) ≤ tx) = false := by simpa using ht1
    rw [if_neg (fun h => h.elim ht0 ht1)] at HM0
    obtain ⟨o, ho, hol⟩ := HO.out h7 (by omega) (by omega)
    have hot := HOT.out o hol
    have hol' : (o : Int) < (L : Int) := by omega
    rw [ho, Int.toNat_natCast] at HM0
    have HT0 : Hid (0 ≤ tx) := by rw [Hid]; omega
    clear h7 ht0 ht1 HO hol HOT
    go_wp2_with fail
    refine (HFT.out _ _ _ (by repeat (first | exact HB.out | apply below_drawn))).mono ?_
    rintro e w3 ⟨rfl, rfl⟩
    rw [ho]
    go_wp2_with fail
    obtain ⟨z, hwo, hz⟩ : ∃ z : Int, wrap64 ((c 6 tx : Int) + (c 5 tx : Int)) = z ∧ (0 < z ↔ 0 < c 6 tx + c 5 tx) := ⟨_, rfl, by rw [HWO.out]; omega⟩
    have HWZ : Hid (wrap64 ((c 6 tx : Int) + (c 5 tx : Int)) = z) := hwo
    have HZ : Hid (0 < z ↔ 0 < c 6 tx + c 5 tx) := hz
    clear hz HWO hwo
    go_quiet ((go_at_call 25; refine Calls.quiet_of_same (HCT.out _ _ _ (by repeat (first | exact HB.out | apply below_drawn)))))
    rw [HWZ.out]
    clear HWZ
    generalize (ne H o).th = oth at *
    by_cases hov : 0 < z
    · have hd3 : decide (0 < z) = true := by simpa using hov
      rw [if_pos (Or.inl (HZ.out.1 hov))] at HM0
      go_wp2_with fail
      go_quiet (fail)
      go_wp2_with fail
      go_ret
      exact ⟨by rw [HM0.out]; rfl, (by repeat (first | exact HB.out | apply below_drawn))⟩
    have hd3 : decide (0 < z) = false := by simpa using hov
    by_cases hth : oth = th
    case neg =>
      have hd4 : (oth != th) = true := by simpa using hth
      rw [if_pos (Or.inr hth)] at HM0
      clear hth
      go_wp2_with fail
      go_quiet (fail)
      go_wp2_with fail
      go_ret
      exact ⟨by rw [HM0.out]; rfl, (by repeat (first | exact HB.out | apply below_drawn))⟩
    have hd4 : (oth != th) = false := by simpa using hth
    rw [if_neg (fun h => h.elim (fun h => hov (HZ.out.2 h)) (fun h => h hth))] at HM0
    clear hth hov
    go_wp2_with fail
    go_quiet (fail)
    go_wp2_with fail
    refine (HCT.out _ _ _ (by repeat (first | exact HB.out | apply below_drawn))).mono ?_
    rintro e w3 ⟨rfl, rfl⟩
    generalize hzb : (c 1 tx : Int) = zb
    have HB0 : Hid (zb = 0 ↔ c 1 tx = 0) := by rw [Hid]; omega
    have HB1 : Hid (zb = 1 ↔ c 1 tx = 1) := by rw [Hid]; omega
    clear hzb
    go_wp2_with fail
    refine (HCT.out _ _ _ (by repeat (first | exact HB.out | apply below_drawn))).mono ?_
    rintro e w3 ⟨rfl, rfl⟩
    generalize hzp : (c 4 tx : Int) = zp
    have HP0 : Hid (zp = 0 ↔ c 4 tx = 0) := by rw [Hid]; omega
    clear hzp
    by_cases k1 : kd = 1
    case pos =>
      subst k1
      rw [if_pos rfl] at HM0
      by_cases e0 : zb = 0
      case pos =>
        have de0 : (zb == 0) = true := by simpa using e0
        go_wp2_with fail
        go_ret
        exact ⟨by rw [HM0.out]; rw [decide_eq_true (by exact HB0.out.1 e0)]; rfl, (by repeat (first | exact HB.out | apply below_drawn))⟩
      case neg =>
        have de0 : (zb == 0) = false := by simpa using e0
        go_wp2_with fail
        go_ret
        exact ⟨by rw [HM0.out]; rw [decide_eq_false (by exact fun h => e0 (HB0.out.2 h))]; rfl, (by repeat (first | exact HB.out | apply below_drawn))⟩
    by_cases k2 : kd = 2
    case pos =>
      subst k2
      rw [if_neg (by decide), if_pos (by decide : (2 : Int) = 2 ∨ (2 : Int) = 3)] at HM0
      by_cases e1 : zb = 1
      case pos =>
        have de1 : (zb == 1) = true := by simpa using e1
        by_cases e2 : zp = 0
        case pos =>
          have de2 : (zp == 0) = true := by simpa using e2
          by_cases e3 : 0 ≤ cl
          case pos =>
            have de3 : decide (0 ≤ cl) = true := by simpa using e3
            by_cases e4 : cl < 1024
            case pos =>
              have de4 : decide (cl < 1024) = true := by simpa using e4
              go_wp2_with fail
              go_ret
              exact ⟨by rw [HM0.out]; rw [decide_eq_true (by exact ⟨HB1.out.1 e1, HP0.out.1 e2, e3, e4⟩)]; rfl, (by repeat (first | exact HB.out | apply below_drawn))⟩
            case neg =>
              have de4 : decide (cl < 1024) = false := by simpa using e4
              go_wp2_with fail
              go_ret
              exact ⟨by rw [HM0.out]; rw [decide_eq_false (by exact fun h => by have := h.2.2.2; omega)]; rfl, (by repeat (first | exact HB.out | apply below_drawn))⟩
          case neg =>
            have de3 : decide (0 ≤ cl) = false := by simpa using e3
            go_wp2_with fail
            go_ret
            exact ⟨by rw [HM0.out]; rw [decide_eq_false (by exact fun h => by have := h.2.2.1; omega)]; rfl, (by repeat (first | exact HB.out | apply below_drawn))⟩
        case neg =>
          have de2 : (zp == 0) = false := by simpa using e2
          go_wp2_with fail
          go_ret
          exact ⟨by rw [HM0.out]; rw [decide_eq_false (by exact fun h => e2 (HP0.out.2 h.2.1))]; rfl, (by repeat (first | exact HB.out | apply below_drawn))⟩
      case neg =>
        have de1 : (zb == 1) = false := by simpa using e1
        go_wp2_with fail
        go_ret
        exact ⟨by rw [HM0.out]; rw [decide_eq_false (by exact fun h => e1 (HB1.out.2 h.1))]; rfl, (by repeat (first | exact HB.out | apply below_drawn))⟩
    by_cases k3 : kd = 3
    case pos =>
      subst k3
      rw [if_neg (by decide), if_pos (by decide : (3 : Int) = 2 ∨ (3 : Int) = 3)] at HM0
      by_cases e1 : zb = 1
      case pos =>
        have de1 : (zb == 1) = true := by simpa using e1
        by_cases e2 : zp = 0
        case pos =>
          have de2 : (zp == 0) = true := by simpa using e2
          by_cases e3 : 0 ≤ cl
          case pos =>
            have de3 : decide (0 ≤ cl) = true := by simpa using e3
            by_cases e4 : cl < 1024
            case pos =>
              have de4 : decide (cl < 1024) = true := by simpa using e4
              go_wp2_with fail
              go_ret
              exact ⟨by rw [HM0.out]; rw [decide_eq_true (by exact ⟨HB1.out.1 e1, HP0.out.1 e2, e3, e4⟩)]; rfl, (by repeat (first | exact HB.out | apply below_drawn))⟩
            case neg =>
              have de4 : decide (cl < 1024) = false := by simpa using e4
              go_wp2_with fail
              go_ret
              exact ⟨by rw [HM0.out]; rw [decide_eq_false (by exact fun h => by have := h.2.2.2; omega)]; rfl, (by repeat (first | exact HB.out | apply below_drawn))⟩
          case neg =>
            have de3 : decide (0 ≤ cl) = false := by simpa using e3
            go_wp2_with fail
            go_ret
            exact ⟨by rw [HM0.out]; rw [decide_eq_false (by exact fun h => by have := h.2.2.1; omega)]; rfl, (by repeat (first | exact HB.out | apply below_drawn))⟩
        case neg =>
          have de2 : (zp == 0) = false := by simpa using e2
          go_wp2_with fail
          go_ret
          exact ⟨by rw [HM0.out]; rw [decide_eq_false (by exact fun h => e2 (HP0.out.2 h.2.1))]; rfl, (by repeat (first | exact HB.out | apply below_drawn))⟩
      case neg =>
        have de1 : (zb == 1) = false := by simpa using e1
        go_wp2_with fail
        go_ret
        exact ⟨by rw [HM0.out]; rw [decide_eq_false (by exact fun h => e1 (HB1.out.2 h.1))]; rfl, (by repeat (first | exact HB.out | apply below_drawn))⟩
    by_cases k4 : kd = 4
    case pos =>
      subst k4
      rw [if_neg (by decide), if_neg (by decide), if_pos rfl] at HM0
      go_wp2_with fail
      refine (HCT.out _ _ _ (by repeat (first | exact HB.out | apply below_drawn))).mono ?_
      rintro e w3 ⟨rfl, rfl⟩
      have HN : Hid (wrap64 ((c 4 (-1) : Int) + 1) = (c 4 (-1) : Int) + 1) := HWN.out 4
      by_cases e1 : zb = 1
      case pos =>
        have de1 : (zb == 1) = true := by simpa using e1
        by_cases e2 : zp = 0
        case pos =>
          have de2 : (zp == 0) = true := by simpa using e2
          by_cases e3 : sp = wrap64 ((c 4 (-1) : Int) + 1)
          case pos =>
            have de3 : (sp == wrap64 ((c 4 (-1) : Int) + 1)) = true := by simpa using e3
            have EQ : Hid (sp = wrap64 ((c 4 (-1) : Int) + 1)) := e3
            clear e3
            go_wp2_with fail
            go_ret
            exact ⟨by rw [HM0.out]; rw [decide_eq_true (by exact ⟨HB1.out.1 e1, HP0.out.1 e2, EQ.out.trans HN.out⟩)]; rfl, (by repeat (first | exact HB.out | apply below_drawn))⟩
          case neg =>
            have de3 : (sp == wrap64 ((c 4 (-1) : Int) + 1)) = false := by simpa using e3
            have EQ : Hid (¬ sp = wrap64 ((c 4 (-1) : Int) + 1)) := e3
            clear e3
            go_wp2_with fail
            go_ret
            exact ⟨by rw [HM0.out]; rw [decide_eq_false (by exact fun h => EQ.out (h.2.2.trans HN.out.symm))]; rfl, (by repeat (first | exact HB.out | apply below_drawn))⟩
        case neg =>
          have de2 : (zp == 0) = false := by simpa using e2
          go_wp2_with fail
          go_ret
          exact ⟨by rw [HM0.out]; rw [decide_eq_false (by exact fun h => e2 (HP0.out.2 h.2.1))]; rfl, (by repeat (first | exact HB.out | apply below_drawn))⟩
      case neg =>
        have de1 : (zb == 1) = false := by simpa using e1
        go_wp2_with fail
        go_ret
        exact ⟨by rw [HM0.out]; rw [decide_eq_false (by exact fun h => e1 (HB1.out.2 h.1))]; rfl, (by repeat (first | exact HB.out | apply below_drawn))⟩
    by_cases k6 : kd = 6
    case pos =>
      subst k6
      rw [if_neg (by decide), if_neg (by decide), if_neg (by decide), if_neg (by decide), if_pos rfl] at HM0
      by_cases e1 : zb = 1
      case pos =>
        have de1 : (zb == 1) = true := by simpa using e1
        by_cases e2 : zp = 0
        case pos =>
          have de2 : (zp == 0) = true := by simpa using e2
          go_wp2_with fail
          go_ret
          exact ⟨by rw [HM0.out]; rw [decide_eq_true (by exact ⟨HB1.out.1 e1, HP0.out.1 e2⟩)]; rfl, (by repeat (first | exact HB.out | apply below_drawn))⟩
        case neg =>
          have de2 : (zp == 0) = false := by simpa using e2
          go_wp2_with fail
          go_ret
          exact ⟨by rw [HM0.out]; rw [decide_eq_false (by exact fun h => e2 (HP0.out.2 h.2))]; rfl, (by repeat (first | exact HB.out | apply below_drawn))⟩
      case neg =>
        have de1 : (zb == 1) = false := by simpa using e1
        go_wp2_with fail
        go_ret
        exact ⟨by rw [HM0.out]; rw [decide_eq_false (by exact fun h => e1 (HB1.out.2 h.1))]; rfl, (by repeat (first | exact HB.out | apply below_drawn))⟩
    by_cases k5 : kd = 5
    case pos =>
      subst k5
      rw [if_neg (by decide), if_neg (by decide), if_neg (by decide), if_pos rfl] at HM0
      go_wp2_with fail
      refine (HCT.out _ _ _ (by repeat (first | exact HB.out | apply below_drawn))).mono ?_
      rintro e w3 ⟨rfl, rfl⟩
      have HN : Hid (wrap64 ((c 5 (-1) : Int) + 1) = (c 5 (-1) : Int) + 1) := HWN.out 5
      by_cases e2 : zp = 0
      case pos =>
        have de2 : (zp == 0) = true := by simpa using e2
        go_wp2_with fail
        go_ret
        exact ⟨by rw [HM0.out]; rw [decide_eq_false (by exact fun h => h.1 (HP0.out.1 e2))]; rfl, (by repeat (first | exact HB.out | apply below_drawn))⟩
      case neg =>
        have de2 : (zp == 0) = false := by simpa using e2
        obtain ⟨o2, ho2, hol2⟩ := HP4.out HT0.out (fun h => e2 (HP0.out.2 h))
        have hos := HOS.out o2 hol2
        have hol2' : (o2 : Int) < (L : Int) := by omega
        rw [ho2, Int.toNat_natCast] at HM0
        clear hol2
        go_wp2_with fail
        refine (HFT.out _ _ _ (by repeat (first | exact HB.out | apply below_drawn))).mono ?_
        rintro e w3 ⟨rfl, rfl⟩
        rw [ho2]
        generalize (ne H o2).sp = ks at *
        go_wp2_with fail
        by_cases e3 : sp = ks
        case pos =>
          have de3 : (sp == ks) = true := by simpa using e3
          have E3 : Hid (sp = ks) := e3
          clear e3
          by_cases e4 : sp = wrap64 ((c 5 (-1) : Int) + 1)
          case pos =>
            have de4 : (sp == wrap64 ((c 5 (-1) : Int) + 1)) = true := by simpa using e4
            have EQ : Hid (sp = wrap64 ((c 5 (-1) : Int) + 1)) := e4
            clear e4
            go_quiet (fail)
            go_wp2_with fail
            go_ret
            exact ⟨by rw [HM0.out]; rw [decide_eq_true (by exact ⟨fun h => e2 (HP0.out.2 h), E3.out, EQ.out.trans HN.out⟩)]; rfl, (by repeat (first | exact HB.out | apply below_drawn))⟩
          case neg =>
            have de4 : (sp == wrap64 ((c 5 (-1) : Int) + 1)) = false := by simpa using e4
            have EQ : Hid (¬ sp = wrap64 ((c 5 (-1) : Int) + 1)) := e4
            clear e4
            go_quiet (fail)
            go_wp2_with fail
            go_ret
            exact ⟨by rw [HM0.out]; rw [decide_eq_false (by exact fun h => EQ.out (h.2.2.trans HN.out.symm))]; rfl, (by repeat (first | exact HB.out | apply below_drawn))⟩
        case neg =>
          have de3 : (sp == ks) = false := by simpa using e3
          go_quiet (fail)
          go_wp2_with fail
          go_ret
          exact ⟨by rw [HM0.out]; rw [decide_eq_false (by exact fun h => e3 h.2.1)]; rfl, (by repeat (first | exact HB.out | apply below_drawn))⟩
    have d1 : (kd == 1) = false := by simpa using k1
    have d2 : (kd == 2) = false := by simpa using k2
    have d3 : (kd == 3) = false := by simpa using k3
    have d4 : (kd == 4) = false := by simpa using k4
    have d5 : (kd == 5) = false := by simpa using k5
    have d6 : (kd == 6) = false := by simpa using k6
    rw [if_neg k1, if_neg (by omega), if_neg k4, if_neg k5, if_neg k6] at HM0
    clear k1 k2 k3 k4 k5 k6
    go_wp2_with fail
    go_ret
    exact ⟨by rw [HM0.out]; rfl, (by repeat (first | exact HB.out | apply below_drawn))⟩
end Go.Proofs.YtbpnookejildnaaDoor.Hi
