/- The document's Txs. -/
import Derived.Test.YtbpnookejildnaaDoorHiY
import Derived.Test.YtbpnookejildnaaDoorHiL
namespace Go.Proofs.YtbpnookejildnaaDoor.Hi
open Go.ChangeShapes Go.WideShapes Go.ChangeAt Go.RowKit
set_option linter.unusedVariables false
set_option maxRecDepth 100000

/-- Each opened one's number has its event. -/
theorem opened_all {H : List Ev} : ∀ i, i ≤ H.length → (∀ k, k < i → mayD H k = true) → ∀ n : Nat, n < cntD H i 7 (-1) → ∃ j, j < i ∧ (ne H j).kd = 7 ∧ (ne H j).tx = (n : Int) := by
  intro i
  induction i with
  | zero => intro _ _ n hn; rw [cnt_zero] at hn; omega
  | succ i ih =>
    intro hi hm n hn
    rw [cnt_step (by omega)] at hn
    by_cases h7 : (ne H i).kd = 7
    · have hmi := hm i (by omega)
      have htx : (ne H i).tx = (cntD H i 7 (-1) : Int) := by
        unfold mayD mayF mayG at hmi
        dsimp only at hmi
        split at hmi
        · cases hmi
        · simpa [h7] using hmi
      by_cases e : n = cntD H i 7 (-1)
      · exact ⟨i, by omega, h7, by rw [htx, e]⟩
      · split at hn
        · obtain ⟨j, h1, h2, h3⟩ := ih (by omega) (fun k hk => hm k (by omega)) n (by omega)
          exact ⟨j, by omega, h2, h3⟩
        · obtain ⟨j, h1, h2, h3⟩ := ih (by omega) (fun k hk => hm k (by omega)) n (by omega)
          exact ⟨j, by omega, h2, h3⟩
    · rw [hit_no (Or.inl h7)] at hn
      obtain ⟨j, h1, h2, h3⟩ := ih (by omega) (fun k hk => hm k (by omega)) n (by simpa using hn)
      exact ⟨j, by omega, h2, h3⟩
theorem fst_hit {H : List Ev} {kind tx : Int} {j : Nat} (hj : j < H.length) (h : hitF kind tx (ne H j) = true) : ∃ o : Nat, fstD H kind tx = (o : Int) ∧ o < H.length := by
  rcases fst_lt H kind tx with hf | hf
  · exfalso
    unfold fstD at hf
    split at hf
    · rename_i i _; omega
    · rename_i hn
      rw [List.findIdx?_eq_none_iff] at hn
      have := hn H[j] (List.getElem_mem hj)
      rw [ne_get hj, h] at this
      cases this
  · exact hf
theorem opened_fst {H : List Ev} {i : Nat} (hi : i ≤ H.length) (hm : ∀ k, k < i → mayD H k = true) {n : Nat} (hn : n < cntD H i 7 (-1)) : ∃ o : Nat, fstD H 7 (n : Int) = (o : Int) ∧ o < H.length := by
  obtain ⟨j, h1, h2, h3⟩ := opened_all i hi hm n hn
  exact fst_hit (show j < H.length by omega) (by unfold hitF; simp [h2, h3])
/-- What the document gathers of one transaction. -/
structure Ts where
  sn : Int
  met : Bool
  st : Int
  en : Int
  er : Int
def tsStep (n : Int) (s : Ts) (e : Ev) : Ts :=
  if e.tx ≠ n then s
  else if e.kd = 1 ∨ e.kd = 2 then { s with sn := if s.met = false ∨ s.sn < e.sn then e.sn else s.sn, met := true }
  else if e.kd = 4 then { s with st := e.sp, en := e.at_ }
  else if e.kd = 6 then { s with en := e.at_, er := e.er }
  else s
def ts0 (H : List Ev) (n : Int) : Ts := ⟨(cntD H (fstD H 7 n).toNat 4 (-1) : Int), false, 0, -1, 0⟩
def tsAt (H : List Ev) (n : Int) (i : Nat) : Ts := (H.take i).foldl (tsStep n) (ts0 H n)
theorem ts_zero (H : List Ev) (n : Int) : tsAt H n 0 = ts0 H n := by simp [tsAt]
theorem ts_step {H : List Ev} {i : Nat} (n : Int) (hi : i < H.length) : tsAt H n (i + 1) = tsStep n (tsAt H n i) (ne H i) := by
  unfold tsAt
  rw [take_ne hi, List.foldl_append]
  rfl
def txD (H : List Ev) (n : Int) : Tr :=
  ⟨(ne H (fstD H 7 n).toNat).th, (ne H (fstD H 7 n).toNat).at_, (tsAt H n H.length).en, (tsAt H n H.length).st, if 0 < (tsAt H n H.length).st then wrap64 ((tsAt H n H.length).st - 1) else (tsAt H n H.length).sn, (tsAt H n H.length).er, 0, []⟩
def txsD (H : List Ev) (m : Nat) : List Tr := (List.range m).map fun n : Nat => txD H (n : Int)
theorem txsD_snoc (H : List Ev) (m : Nat) : txsD H (m + 1) = txsD H m ++ [txD H (m : Int)] := by simp [txsD, List.range_succ]
theorem txsD_len (H : List Ev) (m : Nat) : (txsD H m).length = m := by simp [txsD]
def tC (th bg : Int) (s : Ts) : Array Value := #[.int .i64 th, .int .i64 bg, .int .i64 s.en, .int .i64 s.st, .int .i64 s.sn, .int .i64 s.er]
/-- What the document's Txs tells. -/
def RTxsQ (w : World) (H : List Ev) (e : Ending) (w' : World) : Prop :=
  (((∀ i, i < H.length → mayD H i = true) ∧ ∃ v, e = .returned (.tuple #[v, .int .i64 0, .int .i64 0]) ∧ w'.ownsRow w.heap.size 57 6 v (cntD H H.length 7 (-1)) (t6s (txsD H (cntD H H.length 7 (-1))))) ∨
    ∃ i, i < H.length ∧ (∀ k, k < i → mayD H k = true) ∧ mayD H i = false ∧ e = .returned (.tuple #[.slice none 0 0, .int .i64 14, .int .i64 (i : Int)])) ∧ Below w.heap.size w w'
set_option maxHeartbeats 3200000 in
theorem rtxs_any {w : World} {v : Value} {H : List Ev} (h : EvL w v H) : Calls Tryd.prog 9 #[v] w (RTxsQ w H) := by
  obtain ⟨i0, hi0, hz0, hz1, hz2⟩ := info_parts info_txv
  have hEv := h
  obtain ⟨sa, cap, rfl, hm, hcap, hcs, hca, hok, hl⟩ := h
  have HCT : Hid (∀ wx k kind tx, k ≤ H.length → Below w.heap.size w wx → Calls Tryd.prog 25 #[.slice sa H.length cap, .int .i64 (k : Int), .int .i64 kind, .int .i64 tx] wx fun e w' => e = .returned (.int .i64 (cntD H k kind tx : Int)) ∧ w' = wx) := fun wx k kind tx ht hb => count_any (hEv.later hb (Nat.le_refl _)) ht kind tx
  have HFT : Hid (∀ wx kind tx, Below w.heap.size w wx → Calls Tryd.prog 26 #[.slice sa H.length cap, .int .i64 kind, .int .i64 tx] wx fun e w' => e = .returned (.int .i64 (fstD H kind tx)) ∧ w' = wx) := fun wx kind tx hb => first_any (hEv.later hb (Nat.le_refl _)) kind tx
  have HMY : Hid (∀ wx i, i < H.length → (∀ k, k < i → mayD H k = true) → Below w.heap.size w wx → Calls Tryd.prog 24 #[.slice sa H.length cap, .int .i64 (i : Int)] wx fun e w' => e = .returned (.bool (mayD H i)) ∧ Below wx.heap.size wx w') := fun wx i hi hk hb => may_any (hEv.later hb (Nat.le_refl _)) hi (fun _ h0 h1 => by
    obtain ⟨n, hn⟩ : ∃ n : Nat, (ne H i).tx = (n : Int) := ⟨(ne H i).tx.toNat, by omega⟩
    rw [hn] at h1 ⊢
    exact opened_fst (Nat.le_of_lt hi) hk (by omega))
  have HM : Hid (H.length ≤ 925925926000) := hm
  have HL : Hid (H.length = 0 ∨ ∃ x, sa = some x ∧ x.block < w.heap.size ∧ ∀ i, i < H.length → ∀ j, j < 19 → w.cell? ((x.add (i * 19)).add j) = (evC (ne H i))[j]?) := hl
  unfold RTxsQ
  clear hEv hm hcap hcs hca hok hl
  go_enter Tryd.func9, Tryd.ntmps9
  go_wp2_with fail
  go_loopw [5] (fun iv wr => ∃ j : Nat, j ≤ H.length ∧ iv = .int .i64 (j : Int) ∧ Hid (∀ k, k < j → mayD H k = true) ∧ Hid (Below w.heap.size w wr)) (fun iv _ => H.length - (intOf iv).toNat)
  case atStart => exact ⟨0, Nat.zero_le _, rfl, fun k hk => by omega, Below.refl _ _⟩
  case round =>
    obtain ⟨j, hj, rfl, HK, HB⟩ := hrel
    by_cases hlt : j < H.length
    · have hjd : decide ((j : Int) < (H.length : Int)) = true := by simp; omega
      have hw1 : Hid (wrap64 ((j : Int) + 1) = (j : Int) + 1) := inc_cast HM.out (by omega)
      have HMS : Hid (H.length - (j + 1) < H.length - j) := by rw [Hid]; omega
      have HC2 : Hid (Calls Tryd.prog 24 #[.slice sa H.length cap, .int .i64 (j : Int)] wr fun e w' => e = .returned (.bool (mayD H j)) ∧ Below wr.heap.size wr w') := HMY.out wr j hlt HK.out HB.out
      have HJ : Hid (j < H.length) := hlt
      have HY : Hid (mayD H j = mayD H j) := rfl
      clear HL
      generalize hmj : mayD H j = y at *
      have HMJ : Hid (mayD H j = y) := hmj
      clear hmj HY
      go_wp2_with fail
      refine HC2.out.mono ?_
      rintro e w3 ⟨rfl, hb3⟩
      have HB3 : Hid (Below w.heap.size w w3) := HB.out.trans (hb3.mono HB.out.size)
      clear hb3 HC2
      cases y with
      | true =>
        go_wp2_with fail
        go_roundw
        case rel => exact ⟨j + 1, HJ.out, by first | (rw [hw1.out]; go_num) | go_num, fun k hk => by
            by_cases e : k = j
            · subst e; exact HMJ.out
            · exact HK.out k (by omega), HB3⟩
        case measure => first | (rw [hw1.out]; simpa [intOf] using HMS.out) | (simpa [intOf] using HMS.out)
      | false =>
        go_wp2_with fail
        go_ret3
        exact ⟨Or.inr ⟨j, HJ.out, HK.out, HMJ.out, rfl⟩, HB3.out⟩
    · obtain rfl : j = H.length := by omega
      go_wp2_with fail
      refine (HCT.out _ _ _ _ (Nat.le_refl _) HB.out).mono ?_
      rintro e w3 ⟨rfl, rfl⟩
      have HKK : Hid (∀ k, k < H.length → mayD H k = true) := HK.out
      have HOP : Hid (∀ n : Nat, n < cntD H H.length 7 (-1) → ∃ o : Nat, fstD H 7 (n : Int) = (o : Int) ∧ o < H.length) := fun n hn => opened_fst (Nat.le_refl _) HK.out hn
      have HNM : Hid (cntD H H.length 7 (-1) ≤ 925925926000) := Nat.le_trans (cnt_le _ _ _ _) HM.out
      have HZB : w.heap.size ≤ w3.heap.size := HB.out.size
      clear hj HK HMY
      generalize hNe : cntD H H.length 7 (-1) = N at *
      have HNE : Hid (cntD H H.length 7 (-1) = N) := hNe
      clear hNe
      go_wp2_with fail
      go_loopw [7, 9] (fun lv nv wr => ∃ n : Nat, n ≤ N ∧ nv = .int .i64 (n : Int) ∧ Hid (wr.ownsRow w.heap.size 57 6 lv n (t6s (txsD H n))) ∧ Hid (Below w.heap.size w wr)) (fun _ nv _ => N - (intOf nv).toNat)
      case atStart => exact ⟨0, Nat.zero_le _, rfl, ⟨rfl, Or.inl ⟨rfl, rfl⟩⟩, HB.out⟩
      case round =>
        obtain ⟨n, hn, rfl, HO, HB⟩ := hrel
        by_cases hlt : n < N
        · have hnd : decide ((n : Int) < (N : Int)) = true := by simp; omega
          obtain ⟨o, ho, hol⟩ := HOP.out n hlt
          obtain ⟨x, rfl, hxb, hcl⟩ := HL.out.resolve_left (by omega)
          have hcx := cell_of HB.out hxb hcl hol
          have hco0 := (evl_cells hcx).1
          have hco1 : wr.cell? ⟨(x.add (o * 19)).block, (x.add (o * 19)).off + 1, none⟩ = some (.int .i64 (ne H o).th) := by rw [(evl_cells hcx).2 1 (by decide) (by decide)]; rfl
          have hol' : (o : Int) < (H.length : Int) := by omega
          have HOL : Hid (o < H.length) := hol
          have hxB : (x.add (o * 19)).block < wr.heap.size := by rw [add_block]; exact Nat.lt_of_lt_of_le hxb HB.out.size
          obtain ⟨la, lc, rfl⟩ := own_slice HO.out
          have HFO : Hid (fstD H 7 (n : Int) = (o : Int)) := ho
          have HNL : Hid (n < N) := hlt
          clear hcx hol hlt hn
          go_wp2_with fail
          refine (HFT.out _ _ _ HB.out).mono ?_
          rintro e w4 ⟨rfl, rfl⟩
          rw [HFO.out]
          go_wp2_with fail
          go_cut [0, 7, 8, 9, 10, 11] (fun v0 v7 v8 v9 v10 v11 wx => v0 = .slice (some x) H.length cap ∧ v7 = .slice la n lc ∧ v8 = .int .i64 (N : Int) ∧ v9 = .int .i64 (n : Int) ∧ v10 = .int .i64 (o : Int) ∧ v11 = .pointer (some ⟨w4.heap.size, 0, none⟩) ∧ wx.heap[w4.heap.size]? = some (.cells #[.int .i64 (ne H o).th, .int .i64 (ne H o).at_, .int .i64 (-1), .int .i64 0, .int .i64 0, .int .i64 0] 57 (0, 0)) ∧ Keep [] w4 wx)
          case first =>
            go_region
            go_wp2_with fail
            go_meet
            exact ⟨rfl, rfl, rfl, rfl, rfl, rfl, heap_alloc_new w4 _, Keep.drew ((Keep.refl [] w4).alloc _)⟩
          case rest =>
            obtain ⟨rfl, rfl, rfl, rfl, rfl, rfl, hT, hk⟩ := hcut
            have HOc : Hid (wc.ownsRow w.heap.size 57 6 (.slice la n lc) n (t6s (txsD H n))) := own_keep HO.out hk (fun b hb hm => by simp at hm)
            have HOB : Hid (∀ b, (Value.slice la n lc).ownBlock = some b → b < w4.heap.size) := fun b hb => (own_block HO.out b hb).2
            have HBc : Hid (Below w.heap.size w wc) := HB.out.trans (hk.below HB.out.size (fun b hb => by simp at hb))
            have hct4 : wc.cell? ⟨w4.heap.size, 4, none⟩ = some (.int .i64 0) := by rw [cell_at hT]; simp
            have hft4 := frozen_at hT 4
            have HT0 : Hid (wc.heap[w4.heap.size]? = some (.cells #[.int .i64 (ne H o).th, .int .i64 (ne H o).at_, .int .i64 (-1), .int .i64 0, .int .i64 0, .int .i64 0] 57 (0, 0))) := hT
            have HTB : Hid (w.heap.size ≤ w4.heap.size) := HB.out.size
            have HTC : Hid (w4.heap.size < wc.heap.size) := heap_lt hT
            clear hT hk hco0 hco1 HO HB
            generalize w4.heap.size = T at *
            generalize hth : (ne H o).th = oth at *
            generalize hbg : (ne H o).at_ = obg at *
            have HOT : Hid ((ne H (fstD H 7 (n : Int)).toNat).th = oth ∧ (ne H (fstD H 7 (n : Int)).toNat).at_ = obg) := by rw [Hid, HFO.out, Int.toNat_natCast]; exact ⟨hth, hbg⟩
            have HS0 : Hid (ts0 H (n : Int) = ⟨(cntD H o 4 (-1) : Int), false, 0, -1, 0⟩) := by rw [Hid]; unfold ts0; rw [HFO.out, Int.toNat_natCast]
            clear hth hbg
            go_wp2_with fail
            refine (HCT.out _ _ _ _ (Nat.le_of_lt HOL.out) HBc.out).mono ?_
            rintro e w5 ⟨rfl, rfl⟩
            generalize (cntD H o 4 (-1) : Int) = c4 at *
            go_wp2_with fail
            go_loopw [12, 13] (fun mv iv wr => ∃ i : Nat, i ≤ H.length ∧ iv = .int .i64 (i : Int) ∧ mv = .bool (tsAt H (n : Int) i).met ∧ Hid (wr.heap[T]? = some (.cells (tC oth obg (tsAt H (n : Int) i)) 57 (0, 0))) ∧ Hid (Keep [T] w5 wr)) (fun _ iv _ => H.length - (intOf iv).toNat)
            case atStart => exact ⟨0, Nat.zero_le _, rfl, by rw [ts_zero, HS0.out], by rw [ts_zero, HS0.out, Hid, heap_set HT0.out _ _]; simp [tC], (Keep.refl _ _).setCell _ _ (Or.inl (by simp))⟩
            case round =>
              obtain ⟨i, hi, rfl, rfl, HT, HKP⟩ := hrel
              by_cases hlt : i < H.length
              · have hid : decide ((i : Int) < (H.length : Int)) = true := by simp; omega
                have hw1 : Hid (wrap64 ((i : Int) + 1) = (i : Int) + 1) := inc_cast HM.out (by omega)
                have HMS : Hid (H.length - (i + 1) < H.length - i) := by rw [Hid]; omega
                have HIL : Hid (i + 1 ≤ H.length) := hlt
                have hil : (i : Int) < (H.length : Int) := by omega
                have HBr : Hid (Below w.heap.size w wr) := HBc.out.trans (HKP.out.below HBc.out.size (fun b hb => by simp at hb; subst hb; exact HTB.out))
                have hcx := cell_of HBr.out hxb hcl hlt
                have g0 := (evl_cells hcx).1
                have g2 : wr.cell? ⟨(x.add (i * 19)).block, (x.add (i * 19)).off + 2, none⟩ = some (.int .i64 (ne H i).tx) := by rw [(evl_cells hcx).2 2 (by decide) (by decide)]; rfl
                have g3 : wr.cell? ⟨(x.add (i * 19)).block, (x.add (i * 19)).off + 3, none⟩ = some (.int .i64 (ne H i).kd) := by rw [(evl_cells hcx).2 3 (by decide) (by decide)]; rfl
                have g8 : wr.cell? ⟨(x.add (i * 19)).block, (x.add (i * 19)).off + 8, none⟩ = some (.int .i64 (ne H i).sn) := by rw [(evl_cells hcx).2 8 (by decide) (by decide)]; rfl
                have g9 : wr.cell? ⟨(x.add (i * 19)).block, (x.add (i * 19)).off + 9, none⟩ = some (.int .i64 (ne H i).sp) := by rw [(evl_cells hcx).2 9 (by decide) (by decide)]; rfl
                have g11 : wr.cell? ⟨(x.add (i * 19)).block, (x.add (i * 19)).off + 18, none⟩ = some (.int .i64 (ne H i).er) := by rw [(evl_cells hcx).2 18 (by decide) (by decide)]; rfl
                have t2 : wr.cell? ⟨T, 2, none⟩ = some (.int .i64 (tsAt H (n : Int) i).en) := by rw [cell_at HT.out]; rfl
                have t3 : wr.cell? ⟨T, 3, none⟩ = some (.int .i64 (tsAt H (n : Int) i).st) := by rw [cell_at HT.out]; rfl
                have t4 : wr.cell? ⟨T, 4, none⟩ = some (.int .i64 (tsAt H (n : Int) i).sn) := by rw [cell_at HT.out]; rfl
                have t5 : wr.cell? ⟨T, 5, none⟩ = some (.int .i64 (tsAt H (n : Int) i).er) := by rw [cell_at HT.out]; rfl
                have f2 := frozen_at HT.out 2
                have f3 := frozen_at HT.out 3
                have f4 := frozen_at HT.out 4
                have f5 := frozen_at HT.out 5
                have HGS : Hid (∀ k v, (wr.setCell ⟨T, k, none⟩ v).cell? (x.add (i * 19)) = some (.int .i64 (ne H i).at_) ∧ (wr.setCell ⟨T, k, none⟩ v).cell? ⟨(x.add (i * 19)).block, (x.add (i * 19)).off + 18, none⟩ = some (.int .i64 (ne H i).er)) := fun k v => by
                  have hbs : Below w.heap.size w (wr.setCell ⟨T, k, none⟩ v) := HBc.out.trans (Keep.below (HKP.out.setCell ⟨T, k, none⟩ v (Or.inl (by simp))) HBc.out.size (fun b hb => by simp at hb; subst hb; exact HTB.out))
                  have hcy := cell_of hbs hxb hcl hlt
                  exact ⟨(evl_cells hcy).1, by rw [(evl_cells hcy).2 18 (by decide) (by decide)]; rfl⟩
                have hTx : T ≠ (x.add (i * 19)).block := by have := HTB.out; rw [add_block]; omega
                have hTx2 : (x.add (i * 19)).block ≠ T := Ne.symm hTx
                have HS : Hid (tsAt H (n : Int) (i + 1) = tsStep (n : Int) (tsAt H (n : Int) i) (ne H i)) := ts_step _ hlt
                clear hcx hlt hi
                generalize tsAt H (n : Int) i = s at *
                generalize ne H i = ev at *
                obtain ⟨sn, met, st, en, er⟩ := s
                obtain ⟨a_, th_, tx_, kd_, cl_, vl_, ow_, sr_, sn_, sp_, sg_, er_⟩ := ev
                dsimp only at *
                by_cases htx : tx_ = (n : Int)
                case neg =>
                  have hdx : (tx_ != (n : Int)) = true := by simpa using htx
                  have HS2 : Hid (tsAt H (n : Int) (i + 1) = ⟨sn, met, st, en, er⟩) := by rw [Hid, HS.out]; unfold tsStep; simp [htx]
                  clear htx
                  go_wp2_with fail
                  go_roundw
                  case rel => exact ⟨i + 1, HIL.out, by first | (rw [hw1.out]; go_num) | go_num, by rw [HS2.out], by rw [HS2.out]; exact HT.out, by exact HKP.out⟩
                  case measure => first | (rw [hw1.out]; simpa [intOf] using HMS.out) | (simpa [intOf] using HMS.out)
                have hdx : (tx_ != (n : Int)) = false := by simpa using htx
                by_cases k1 : kd_ = 1
                case pos =>
                  subst k1
                  cases met with
                  | false =>
                    have HS2 : Hid (tsAt H (n : Int) (i + 1) = ⟨sn_, true, st, en, er⟩) := by rw [Hid, HS.out]; unfold tsStep; simp [htx]
                    clear htx
                    go_wp2_with fail
                    go_quiet (fail)
                    go_wp2_with fail
                    go_roundw
                    case rel => exact ⟨i + 1, HIL.out, by first | (rw [hw1.out]; go_num) | go_num, by rw [HS2.out], by rw [HS2.out, Hid, heap_set (w := wr.drewN _) HT.out _ _]; simp [tC], by exact Keep.setCell (HKP.out.drewN _) _ _ (Or.inl (by simp))⟩
                    case measure => first | (rw [hw1.out]; simpa [intOf] using HMS.out) | (simpa [intOf] using HMS.out)
                  | true =>
                    by_cases hs : sn < sn_
                    case pos =>
                      have hds : decide (sn < sn_) = true := by simpa using hs
                      have HS2 : Hid (tsAt H (n : Int) (i + 1) = ⟨sn_, true, st, en, er⟩) := by rw [Hid, HS.out]; unfold tsStep; simp [htx, hs]
                      clear htx hs
                      go_wp2_with fail
                      go_quiet (fail)
                      go_wp2_with fail
                      go_roundw
                      case rel => exact ⟨i + 1, HIL.out, by first | (rw [hw1.out]; go_num) | go_num, by rw [HS2.out], by rw [HS2.out, Hid, heap_set (w := wr.drewN _) HT.out _ _]; simp [tC], by exact Keep.setCell (HKP.out.drewN _) _ _ (Or.inl (by simp))⟩
                      case measure => first | (rw [hw1.out]; simpa [intOf] using HMS.out) | (simpa [intOf] using HMS.out)
                    case neg =>
                      have hds : decide (sn < sn_) = false := by simpa using hs
                      have HS2 : Hid (tsAt H (n : Int) (i + 1) = ⟨sn, true, st, en, er⟩) := by rw [Hid, HS.out]; unfold tsStep; simp [htx, hs]
                      clear htx hs
                      go_wp2_with fail
                      go_quiet (fail)
                      go_wp2_with fail
                      go_roundw
                      case rel => exact ⟨i + 1, HIL.out, by first | (rw [hw1.out]; go_num) | go_num, by rw [HS2.out], by rw [HS2.out]; exact HT.out, by exact HKP.out.drewN _⟩
                      case measure => first | (rw [hw1.out]; simpa [intOf] using HMS.out) | (simpa [intOf] using HMS.out)
                by_cases k2 : kd_ = 2
                case pos =>
                  subst k2
                  cases met with
                  | false =>
                    have HS2 : Hid (tsAt H (n : Int) (i + 1) = ⟨sn_, true, st, en, er⟩) := by rw [Hid, HS.out]; unfold tsStep; simp [htx]
                    clear htx
                    go_wp2_with fail
                    go_quiet (fail)
                    go_wp2_with fail
                    go_roundw
                    case rel => exact ⟨i + 1, HIL.out, by first | (rw [hw1.out]; go_num) | go_num, by rw [HS2.out], by rw [HS2.out, Hid, heap_set (w := wr.drewN _) HT.out _ _]; simp [tC], by exact Keep.setCell (HKP.out.drewN _) _ _ (Or.inl (by simp))⟩
                    case measure => first | (rw [hw1.out]; simpa [intOf] using HMS.out) | (simpa [intOf] using HMS.out)
                  | true =>
                    by_cases hs : sn < sn_
                    case pos =>
                      have hds : decide (sn < sn_) = true := by simpa using hs
                      have HS2 : Hid (tsAt H (n : Int) (i + 1) = ⟨sn_, true, st, en, er⟩) := by rw [Hid, HS.out]; unfold tsStep; simp [htx, hs]
                      clear htx hs
                      go_wp2_with fail
                      go_quiet (fail)
                      go_wp2_with fail
                      go_roundw
                      case rel => exact ⟨i + 1, HIL.out, by first | (rw [hw1.out]; go_num) | go_num, by rw [HS2.out], by rw [HS2.out, Hid, heap_set (w := wr.drewN _) HT.out _ _]; simp [tC], by exact Keep.setCell (HKP.out.drewN _) _ _ (Or.inl (by simp))⟩
                      case measure => first | (rw [hw1.out]; simpa [intOf] using HMS.out) | (simpa [intOf] using HMS.out)
                    case neg =>
                      have hds : decide (sn < sn_) = false := by simpa using hs
                      have HS2 : Hid (tsAt H (n : Int) (i + 1) = ⟨sn, true, st, en, er⟩) := by rw [Hid, HS.out]; unfold tsStep; simp [htx, hs]
                      clear htx hs
                      go_wp2_with fail
                      go_quiet (fail)
                      go_wp2_with fail
                      go_roundw
                      case rel => exact ⟨i + 1, HIL.out, by first | (rw [hw1.out]; go_num) | go_num, by rw [HS2.out], by rw [HS2.out]; exact HT.out, by exact HKP.out.drewN _⟩
                      case measure => first | (rw [hw1.out]; simpa [intOf] using HMS.out) | (simpa [intOf] using HMS.out)
                by_cases k4 : kd_ = 4
                case pos =>
                  subst k4
                  obtain ⟨gs0, gs11⟩ := HGS.out 3 (.int .i64 sp_)
                  have HS2 : Hid (tsAt H (n : Int) (i + 1) = ⟨sn, met, sp_, a_, er⟩) := by rw [Hid, HS.out]; unfold tsStep; simp [htx]
                  clear htx
                  go_wp2_with fail
                  go_roundw
                  case rel => exact ⟨i + 1, HIL.out, by first | (rw [hw1.out]; go_num) | go_num, by rw [HS2.out], by rw [HS2.out, Hid, heap_set (heap_set HT.out _ _) _ _]; simp [tC], by exact ((HKP.out).setCell _ _ (Or.inl (by simp))).setCell _ _ (Or.inl (by simp))⟩
                  case measure => first | (rw [hw1.out]; simpa [intOf] using HMS.out) | (simpa [intOf] using HMS.out)
                by_cases k6 : kd_ = 6
                case pos =>
                  subst k6
                  obtain ⟨gs0, gs11⟩ := HGS.out 2 (.int .i64 a_)
                  have HS2 : Hid (tsAt H (n : Int) (i + 1) = ⟨sn, met, st, a_, er_⟩) := by rw [Hid, HS.out]; unfold tsStep; simp [htx]
                  clear htx
                  go_wp2_with fail
                  go_roundw
                  case rel => exact ⟨i + 1, HIL.out, by first | (rw [hw1.out]; go_num) | go_num, by rw [HS2.out], by rw [HS2.out, Hid, heap_set (heap_set HT.out _ _) _ _]; simp [tC], by exact ((HKP.out).setCell _ _ (Or.inl (by simp))).setCell _ _ (Or.inl (by simp))⟩
                  case measure => first | (rw [hw1.out]; simpa [intOf] using HMS.out) | (simpa [intOf] using HMS.out)
                have d1 : (kd_ == 1) = false := by simpa using k1
                have d2 : (kd_ == 2) = false := by simpa using k2
                have d4 : (kd_ == 4) = false := by simpa using k4
                have d6 : (kd_ == 6) = false := by simpa using k6
                have HS2 : Hid (tsAt H (n : Int) (i + 1) = ⟨sn, met, st, en, er⟩) := by rw [Hid, HS.out]; unfold tsStep; simp [htx, k1, k2, k4, k6]
                clear htx k1 k2 k4 k6
                go_wp2_with fail
                go_roundw
                case rel => exact ⟨i + 1, HIL.out, by first | (rw [hw1.out]; go_num) | go_num, by rw [HS2.out], by rw [HS2.out]; exact HT.out, by exact HKP.out⟩
                case measure => first | (rw [hw1.out]; simpa [intOf] using HMS.out) | (simpa [intOf] using HMS.out)
              · obtain rfl : i = H.length := by omega
                have t0 : wr.cell? ⟨T, 0, none⟩ = some (.int .i64 oth) := by rw [cell_at HT.out]; rfl
                have t1 : wr.cell? ⟨T, 1, none⟩ = some (.int .i64 obg) := by rw [cell_at HT.out]; rfl
                have t2 : wr.cell? ⟨T, 2, none⟩ = some (.int .i64 (tsAt H (n : Int) H.length).en) := by rw [cell_at HT.out]; rfl
                have t3 : wr.cell? ⟨T, 3, none⟩ = some (.int .i64 (tsAt H (n : Int) H.length).st) := by rw [cell_at HT.out]; rfl
                have t4 : wr.cell? ⟨T, 4, none⟩ = some (.int .i64 (tsAt H (n : Int) H.length).sn) := by rw [cell_at HT.out]; rfl
                have t5 : wr.cell? ⟨T, 5, none⟩ = some (.int .i64 (tsAt H (n : Int) H.length).er) := by rw [cell_at HT.out]; rfl
                have f4 := frozen_at HT.out 4
                have hwn : Hid (wrap64 ((n : Int) + 1) = (n : Int) + 1) := inc_cast HNM.out (Nat.le_of_lt HNL.out)
                have HMN : Hid (N - (n + 1) < N - n) := by have := HNL.out; rw [Hid]; omega
                have hnn : n ≤ 925925926000 := Nat.le_trans (Nat.le_of_lt HNL.out) HNM.out
                have hxl : (t6s (txsD H n)).length = n * 6 := by rw [t6s_len, txsD_len]
                have hTl : T < wr.heap.size := heap_lt HT.out
                have HSS : Hid (tsAt H (n : Int) H.length = tsAt H (n : Int) H.length) := rfl
                generalize hse : tsAt H (n : Int) H.length = s at *
                have HSS : Hid (tsAt H (n : Int) H.length = s) := hse
                clear hse hlt hi hxB hxb hcl
                obtain ⟨sn, met, st, en, er⟩ := s
                dsimp only at *
                by_cases hst : 0 < st
                case pos =>
                  have hds : decide (0 < st) = true := by simpa using hst
                  have HKW : Hid (Keep [T] w5 (wr.setCell ⟨T, 4, none⟩ (.int .i64 (wrap64 (st - 1))))) := HKP.out.setCell _ _ (Or.inl (by simp))
                  have HOW : Hid ((wr.setCell ⟨T, 4, none⟩ (.int .i64 (wrap64 (st - 1)))).ownsRow w.heap.size 57 6 (.slice la n lc) n (t6s (txsD H n))) := own_keep HOc.out HKW.out (fun b hb hm => by simp at hm; subst hm; exact absurd (HOB.out b hb) (Nat.lt_irrefl _))
                  have HSX : Hid (t6s (txsD H (n + 1)) = t6s (txsD H n) ++ [.int .i64 oth, .int .i64 obg, .int .i64 en, .int .i64 st, .int .i64 (wrap64 (st - 1)), .int .i64 er]) := by
                    rw [Hid, txsD_snoc, t6s_snoc]
                    unfold txD t6
                    rw [HSS.out]
                    dsimp only
                    rw [HOT.out.1, HOT.out.2, if_pos hst]
                  have HWB : Hid (w.heap.size ≤ (wr.setCell ⟨T, 4, none⟩ (.int .i64 (wrap64 (st - 1)))).heap.size) := Nat.le_trans HBc.out.size HKW.out.size
                  have HWW : Hid (Below w.heap.size w (wr.setCell ⟨T, 4, none⟩ (.int .i64 (wrap64 (st - 1))))) := HBc.out.trans (Keep.below HKW.out HBc.out.size (fun b hb => by simp at hb; subst hb; exact HTB.out))
                  clear hst
                  have hsz : (wr.setCell ⟨T, 4, none⟩ (.int .i64 (wrap64 (st - 1)))).heap.size = wr.heap.size := by simp
                  have HNW : Hid (∀ o, ((wr.setCell ⟨T, 4, none⟩ (.int .i64 (wrap64 (st - 1)))).alloc o).heap[wr.heap.size]? = some o) := fun o => by rw [← hsz]; exact heap_alloc_new _ _
                  have hwb : w.heap.size ≤ wr.heap.size := by rw [← hsz]; exact HWB.out
                  clear hsz
                  generalize t6s (txsD H n) = xs at *
                  go_wp2_with (at_builtin; refine list_lies_wide _ rfl _ _ 24 rfl w.heap.size 57 i0 _ 6 48 Tryd.underlying24 hi0 hz0 hz1 hz2 rfl (by decide) _ _ _ rfl (HOW.out.alloc _) ⟨wr.heap.size, 0, none⟩ 1 1 [.int .i64 oth, .int .i64 obg, .int .i64 en, .int .i64 st, .int .i64 (wrap64 (st - 1)), .int .i64 er] rfl rfl (World.news_of_block (cs := #[.int .i64 oth, .int .i64 obg, .int .i64 en, .int .i64 st, .int .i64 (wrap64 (st - 1)), .int .i64 er]) (t := 57) (fr := (0, 0)) (HNW.out _)) (by simp [Value.oneCell']) (by decide) (by unfold maxLen; omega) (by omega) (by simp; omega) _ rfl ?_)
                  intro gg cap2 w7 hown1 hgrow hat hlt3
                  have HO7 : Hid (w7.ownsRow w.heap.size 57 6 (.slice (some ⟨gg, 0, none⟩) (n + 1) cap2) (n + 1) (t6s (txsD H (n + 1)))) := by rw [Hid, HSX.out]; exact hown1
                  have HB7 : Hid (Below w.heap.size w w7) := by
                    have k : Keep (Value.slice la n lc).ownBlock.toList (wr.setCell ⟨T, 4, none⟩ (.int .i64 (wrap64 (st - 1)))) w7 := (((Keep.refl [] (wr.setCell ⟨T, 4, none⟩ (.int .i64 (wrap64 (st - 1))))).alloc _).mono (by simp)).grown hgrow (fun b hb => Or.inl (by rw [hb]; simp))
                    exact HWW.out.trans (k.below HWB.out (fun x hx => (own_block HOW.out x (by simpa using hx)).1))
                  clear hown1 hgrow hat hlt3
                  go_wp2_with fail
                  go_roundw
                  case rel => exact ⟨n + 1, HNL.out, by first | (rw [hwn.out]; go_num) | go_num, HO7, HB7⟩
                  case measure => first | (rw [hwn.out]; simpa [intOf] using HMN.out) | (simpa [intOf] using HMN.out)
                case neg =>
                  have hds : decide (0 < st) = false := by simpa using hst
                  have HKW : Hid (Keep [T] w5 wr) := HKP.out
                  have HOW : Hid (wr.ownsRow w.heap.size 57 6 (.slice la n lc) n (t6s (txsD H n))) := own_keep HOc.out HKW.out (fun b hb hm => by simp at hm; subst hm; exact absurd (HOB.out b hb) (Nat.lt_irrefl _))
                  have HSX : Hid (t6s (txsD H (n + 1)) = t6s (txsD H n) ++ [.int .i64 oth, .int .i64 obg, .int .i64 en, .int .i64 st, .int .i64 (sn), .int .i64 er]) := by
                    rw [Hid, txsD_snoc, t6s_snoc]
                    unfold txD t6
                    rw [HSS.out]
                    dsimp only
                    rw [HOT.out.1, HOT.out.2, if_neg hst]
                  have HWB : Hid (w.heap.size ≤ wr.heap.size) := Nat.le_trans HBc.out.size HKW.out.size
                  have HWW : Hid (Below w.heap.size w wr) := HBc.out.trans (Keep.below HKW.out HBc.out.size (fun b hb => by simp at hb; subst hb; exact HTB.out))
                  clear hst
                  have hwb := HWB.out
                  generalize t6s (txsD H n) = xs at *
                  go_wp2_with (at_builtin; refine list_lies_wide _ rfl _ _ 24 rfl w.heap.size 57 i0 _ 6 48 Tryd.underlying24 hi0 hz0 hz1 hz2 rfl (by decide) _ _ _ rfl (HOW.out.alloc _) ⟨wr.heap.size, 0, none⟩ 1 1 [.int .i64 oth, .int .i64 obg, .int .i64 en, .int .i64 st, .int .i64 (sn), .int .i64 er] rfl rfl (World.news_of_block (cs := #[.int .i64 oth, .int .i64 obg, .int .i64 en, .int .i64 st, .int .i64 (sn), .int .i64 er]) (t := 57) (fr := (0, 0)) (heap_alloc_new wr _)) (by simp [Value.oneCell']) (by decide) (by unfold maxLen; omega) (by omega) (by simp; omega) _ rfl ?_)
                  intro gg cap2 w7 hown1 hgrow hat hlt3
                  have HO7 : Hid (w7.ownsRow w.heap.size 57 6 (.slice (some ⟨gg, 0, none⟩) (n + 1) cap2) (n + 1) (t6s (txsD H (n + 1)))) := by rw [Hid, HSX.out]; exact hown1
                  have HB7 : Hid (Below w.heap.size w w7) := by
                    have k : Keep (Value.slice la n lc).ownBlock.toList wr w7 := (((Keep.refl [] wr).alloc _).mono (by simp)).grown hgrow (fun b hb => Or.inl (by rw [hb]; simp))
                    exact HWW.out.trans (k.below HWB.out (fun x hx => (own_block HOW.out x (by simpa using hx)).1))
                  clear hown1 hgrow hat hlt3
                  go_wp2_with fail
                  go_roundw
                  case rel => exact ⟨n + 1, HNL.out, by first | (rw [hwn.out]; go_num) | go_num, HO7, HB7⟩
                  case measure => first | (rw [hwn.out]; simpa [intOf] using HMN.out) | (simpa [intOf] using HMN.out)
        · obtain rfl : n = N := by omega
          go_wp2_with fail
          go_ret3
          exact ⟨Or.inl ⟨HKK.out, _, rfl, by rw [HNE.out]; exact HO.out⟩, HB.out⟩
end Go.Proofs.YtbpnookejildnaaDoor.Hi
