/- The document's Final. -/
import Derived.Test.YtbpnookejildnaaDoorHiDu
namespace Go.Proofs.YtbpnookejildnaaDoor.Hi
open Go.ChangeShapes Go.WideShapes Go.ChangeAt Go.RowKit
set_option linter.unusedVariables false
set_option maxRecDepth 100000

def iC (l : List Int) : List Value := l.map fun x => Value.int .i64 x
theorem iC_len (l : List Int) : (iC l).length = l.length := by simp [iC]
theorem iC_snoc (l : List Int) (x : Int) : iC (l ++ [x]) = iC l ++ [.int .i64 x] := by simp [iC]
theorem iC_get {l : List Int} {i : Nat} (h : i < l.length) : (iC l)[i]? = some (.int .i64 (ni l i)) := by
  unfold iC
  rw [List.getElem?_map, List.getElem?_eq_getElem h, ← ni_get h]
  rfl
theorem own_il {w : World} {base n : Nat} {v : Value} {l : List Int} (h : w.ownsRow base 3 1 v n (iC l)) (hn : l.length = n) (hl : l.length ≤ 17592186044416) : IL w v l := by
  subst hn
  rcases h.2 with ⟨e, h0⟩ | ⟨g, cap, cur, e, hb, hg, h1, h2, h3, h4⟩
  · exact ⟨none, 0, by rw [e, h0], hl, by omega, by omega, fun _ => rfl, Or.inl h0⟩
  · refine ⟨some ⟨g, 0, none⟩, cap, e, hl, h1, by unfold maxLen at h2; omega, (fun h => by cases h), Or.inr ⟨_, rfl, heap_lt hg, fun i hi => ?_⟩⟩
    subst e
    have ha : (⟨g, 0, none⟩ : Addr).add i = ⟨g, i, none⟩ := by
      unfold Addr.add
      split <;> simp_all
    rw [ha]
    exact own_cells h i _ (iC_get hi)
theorem own_nil (w : World) (B e s : Nat) : w.ownsRow B e s (.slice none 0 0) 0 [] := ⟨by simp, Or.inl ⟨rfl, rfl⟩⟩
theorem own_some1 {w : World} {base e s n : Nat} {v : Value} {xs : List Value} (h : w.ownsRow base e s v n xs) (hn : 0 < n) : ∃ g cap, v = .slice (some ⟨g, 0, none⟩) n cap ∧ n ≤ cap ∧ ∀ j u, xs[j]? = some u → w.cell? ⟨g, j, none⟩ = some u := by
  rcases h.2 with ⟨e, h0⟩ | ⟨g, cp, cur, rfl, _, _, hc, _⟩
  · omega
  · exact ⟨g, cp, rfl, hc, own_cells h⟩
theorem info_int23 : (Tryd.prog.info? 3).map (fun i => (i.zero, i.size, i.bytes)) = some (some (.int .i64 0), 1, 8) := by kernel_rfl
theorem ordB_mem {L : List Tr} {s : Int} {i : Nat} {x : Int} (h : x ∈ ordB L s i) : ∃ q : Nat, x = (q : Int) ∧ q < i := by
  unfold ordB at h
  rw [List.mem_map] at h
  obtain ⟨n, hn, rfl⟩ := h
  exact ⟨n, rfl, by simpa using (List.mem_filter.1 hn).1⟩
theorem ordA_mem {L : List Tr} {N : Nat} {x : Int} : ∀ k, x ∈ ordA L N k → ∃ q : Nat, x = (q : Int) ∧ q < N := by
  intro k
  induction k with
  | zero => intro h; simp [ordA] at h
  | succ k ih =>
    intro h
    show ∃ q : Nat, _
    rw [show ordA L N (k + 1) = ordA L N k ++ ordB L ((k : Int) + 1) N from rfl, List.mem_append] at h
    rcases h with h | h
    · exact ih h
    · exact ordB_mem h
theorem ordB_zero (L : List Tr) (s : Int) : ordB L s 0 = [] := rfl
theorem ordA_next {L : List Tr} {N s : Nat} (h : 1 ≤ s) : ordA L N (s - 1) ++ ordB L (s : Int) N = ordA L N s := by
  cases s with
  | zero => omega
  | succ s => rfl
theorem ord_bound' {L : List Tr} {N s i : Nat} (h : 1 ≤ s) (hi : i ≤ N) : (ordA L N (s - 1) ++ ordB L (s : Int) i).length ≤ N := by
  cases s with
  | zero => omega
  | succ s => exact ord_bound L N s i hi
theorem ordB_hit {L : List Tr} {s : Int} {i : Nat} (h : (nt L i).st = s) : ordB L s (i + 1) = ordB L s i ++ [(i : Int)] := by rw [ordB_step, if_pos h]
theorem ordB_not {L : List Tr} {s : Int} {i : Nat} (h : (nt L i).st ≠ s) : ordB L s (i + 1) = ordB L s i := by rw [ordB_step, if_neg h, List.append_nil]
/-- The document's order of those that published. -/
def ordP (H : List Ev) : List Int := ordA (txsD H (cntD H H.length 7 (-1))) (cntD H H.length 7 (-1)) (cntD H H.length 7 (-1))
def finV (H : List Ev) (c : Int) : Int := befD H (txsD H (cntD H H.length 7 (-1))) (ordP H) c (ordP H).length
theorem ordP_len (H : List Ev) : (ordP H).length ≤ cntD H H.length 7 (-1) := by
  have h := ord_bound (txsD H (cntD H H.length 7 (-1))) (cntD H H.length 7 (-1)) (cntD H H.length 7 (-1)) 0 (Nat.zero_le _)
  rw [List.length_append] at h
  unfold ordP
  omega
inductive RFinQ (w : World) (H : List Ev) (n : Int) : Ending → World → Prop
  | bad {w' : World} : allMay H = false → RFinQ w H n (.returned (.tuple #[.slice none 0 0, .int .i64 14])) w'
  | arg {w' : World} : allMay H = true → ¬ (0 ≤ n ∧ n ≤ 1024) → RFinQ w H n (.returned (.tuple #[.slice none 0 0, .int .i64 1])) w'
  | yes {w' : World} (v : Value) : allMay H = true → (0 ≤ n ∧ n ≤ 1024) → w'.ownsRow w.heap.size 2 1 v n.toNat (finC (finV H) n.toNat) → RFinQ w H n (.returned (.tuple #[v, .int .i64 0])) w'
theorem finC_step (m : Int → Int) (n : Nat) : finC m (n + 1) = finC m n ++ [.int .i64 (m (n : Int))] := by simp [finC, List.range_succ]
set_option maxHeartbeats 3200000 in
theorem rfinal_any {w : World} {v : Value} {H : List Ev} (h : EvL w v H) (n : Int) : Calls Tryd.prog 19 #[v, .int .i64 n] w fun e w' => RFinQ w H n e w' ∧ Below w.heap.size w w' := by
  obtain ⟨i0, hi0, hz0, hz1, hz2⟩ := info_parts info_i64h
  obtain ⟨j0, hj0, hy0, hy1, hy2⟩ := info_parts info_int23
  have HEV : Hid (EvL w v H) := h
  have HTX : Hid (Calls Tryd.prog 9 #[v] w (RTxsQ w H)) := rtxs_any h
  have HNM : Hid (cntD H H.length 7 (-1) ≤ 925925926000) := Nat.le_trans (cnt_le _ _ _ _) h.len
  have HPL : Hid ((ordP H).length ≤ cntD H H.length 7 (-1)) := ordP_len H
  have HPE : Hid (ordP H = ordA (txsD H (cntD H H.length 7 (-1))) (cntD H H.length 7 (-1)) (cntD H H.length 7 (-1))) := rfl
  have HFV : Hid (∀ c, finV H c = befD H (txsD H (cntD H H.length 7 (-1))) (ordP H) c (ordP H).length) := fun _ => rfl
  have HLL : Hid ((txsD H (cntD H H.length 7 (-1))).length = cntD H H.length 7 (-1)) := txsD_len _ _
  clear h
  unfold RTxsQ at HTX
  go_enter Tryd.func19, Tryd.ntmps19
  go_wp2_with fail
  refine HTX.out.mono ?_
  rintro e w1 ⟨hy, hb1⟩
  have HB1 : Hid (Below w.heap.size w w1) := hb1
  rcases hy with ⟨hall, lv, rfl, hown⟩ | ⟨i, hi, _, hno, rfl⟩
  case inr =>
    have HAM : Hid (allMay H = false) := allMay_no hi hno
    clear hb1 HTX
    go_wp2_with fail
    go_ret2
    exact ⟨.bad HAM.out, HB1.out⟩
  have HAM : Hid (allMay H = true) := allMay_yes hall
  have HOL : Hid (w1.ownsRow w.heap.size 57 6 lv (cntD H H.length 7 (-1)) (t6s (txsD H (cntD H H.length 7 (-1))))) := hown
  obtain ⟨la, lc, rfl⟩ := own_slice hown
  clear hall hown hb1 HTX
  generalize hLg : txsD H (cntD H H.length 7 (-1)) = L at *
  clear hLg
  generalize hNg : cntD H H.length 7 (-1) = N at *
  clear hNg
  generalize ordP H = op at *
  obtain ⟨fv, hfe⟩ : ∃ f, finV H = f := ⟨_, rfl⟩
  have HFE : Hid (finV H = fv) := hfe
  rw [hfe] at HFV
  clear hfe
  by_cases h0 : n < 0
  case pos =>
    have d0 : decide (n < 0) = true := by simpa using h0
    have HNR : Hid (¬ (0 ≤ n ∧ n ≤ 1024)) := by rw [Hid]; omega
    clear h0
    go_wp2_with fail
    go_ret2
    exact ⟨.arg HAM.out HNR.out, HB1.out⟩
  have d0 : decide (n < 0) = false := by simpa using h0
  by_cases h1 : 1024 < n
  case pos =>
    have d1 : decide (1024 < n) = true := by simpa using h1
    have HNR : Hid (¬ (0 ≤ n ∧ n ≤ 1024)) := by rw [Hid]; omega
    clear h0 h1
    go_wp2_with fail
    go_ret2
    exact ⟨.arg HAM.out HNR.out, HB1.out⟩
  have d1 : decide (1024 < n) = false := by simpa using h1
  obtain ⟨m, rfl⟩ : ∃ m : Nat, n = (m : Int) := ⟨n.toNat, by omega⟩
  have HNR : Hid (0 ≤ (m : Int) ∧ (m : Int) ≤ 1024) := by rw [Hid]; omega
  have HM : Hid (m ≤ 1024) := by rw [Hid]; omega

  clear h0 h1
  go_wp2_with fail
  go_loopw [9, 10] (fun ov sv wr => ∃ s : Nat, 1 ≤ s ∧ s ≤ N + 1 ∧ sv = .int .i64 (s : Int) ∧ Hid (wr.ownsRow w1.heap.size 3 1 ov (ordA L N (s - 1)).length (iC (ordA L N (s - 1)))) ∧ Hid (Below w1.heap.size w1 wr)) (fun _ sv _ => (N + 1 - (intOf sv).toNat))
  case atStart => exact ⟨1, Nat.le_refl _, by omega, rfl, ⟨rfl, Or.inl ⟨rfl, rfl⟩⟩, Below.refl _ _⟩
  case round =>
    obtain ⟨s, hs1, hsN, rfl, HO, HB⟩ := hrel
    obtain ⟨oa, oc, rfl⟩ := own_slice HO.out
    by_cases hlt : s ≤ N
    · have hsd : decide ((s : Int) ≤ (N : Int)) = true := by simp; omega
      have hsd2 : (s : Int) ≤ (N : Int) := by omega
      have HS : Hid (1 ≤ s ∧ s ≤ N) := ⟨hs1, hlt⟩
      have hws : Hid (wrap64 ((s : Int) + 1) = (s : Int) + 1) := inc_cast HNM.out hlt
      have HMN : Hid (N + 1 - (s + 1) < N + 1 - s) := by rw [Hid]; omega
      have HST : Hid (Hid (wr.ownsRow w1.heap.size 3 1 (.slice oa (ordA L N (s - 1)).length oc) (ordA L N (s - 1) ++ ordB L (s : Int) 0).length (iC (ordA L N (s - 1) ++ ordB L (s : Int) 0)))) := by
        rw [ordB_zero, List.append_nil]; exact HO
      have HBB := HB
      clear hs1 hsN hlt HO HB
      obtain ⟨x5, rfl⟩ : ∃ x5, x5 = wr := ⟨_, rfl⟩
      go_wp2_with fail
      go_loopw [9, 11] (fun ov iv wr => ∃ i : Nat, i ≤ N ∧ iv = .int .i64 (i : Int) ∧ Hid (wr.ownsRow w1.heap.size 3 1 ov (ordA L N (s - 1) ++ ordB L (s : Int) i).length (iC (ordA L N (s - 1) ++ ordB L (s : Int) i))) ∧ Hid (Below w1.heap.size w1 wr)) (fun _ iv _ => (N - (intOf iv).toNat))
      case atStart => exact ⟨0, Nat.zero_le _, rfl, HST.out, HBB⟩
      clear HST HBB
      case round =>
        obtain ⟨i, hi, rfl, HO, HB⟩ := hrel
        obtain ⟨oa, oc, rfl⟩ := own_slice HO.out
        by_cases hlt : i < N
        · have hid : decide ((i : Int) < (N : Int)) = true := by simp; omega
          have HIL : Hid (i < N) := hlt
          have hwi : Hid (wrap64 ((i : Int) + 1) = (i : Int) + 1) := inc_cast HNM.out (Nat.le_of_lt hlt)
          have HMS : Hid (N - (i + 1) < N - i) := by rw [Hid]; omega
          have hbd : (ordA L N (s - 1) ++ ordB L (s : Int) i).length ≤ N := ord_bound' HS.out.1 (Nat.le_of_lt hlt)
          have hNM := HNM.out
          obtain ⟨g, rfl, hgb, hgl, hg⟩ := row6 (own_keep HOL.out (Keep.of_below HB.out []) (by simp)) HLL.out hlt
          have g3 : wr.cell? ⟨g, i * 6 + 3, none⟩ = some (.int .i64 (nt L i).st) := hg 3 (by decide)
          have hiN : (i : Int) < (N : Int) := by omega
          have hgl' : w1.heap.size ≤ wr.heap.size := HB.out.size
          clear hg hi
          by_cases hst : (nt L i).st = (s : Int)
          · have dst : ((nt L i).st == (s : Int)) = true := by simpa using hst
            have hl2 : ordA L N (s - 1) ++ ordB L (s : Int) (i + 1) = (ordA L N (s - 1) ++ ordB L (s : Int) i) ++ [(i : Int)] := by rw [ordB_hit hst, List.append_assoc]
            generalize hE2 : ordA L N (s - 1) ++ ordB L (s : Int) (i + 1) = l2 at *
            have HE2 : Hid (ordA L N (s - 1) ++ ordB L (s : Int) (i + 1) = l2) := hE2
            clear hE2
            generalize ordA L N (s - 1) ++ ordB L (s : Int) i = l1 at *
            have HL2 : Hid (iC l2 = iC l1 ++ [.int .i64 (i : Int)] ∧ l2.length = l1.length + 1) := by rw [Hid, hl2, iC_snoc, List.length_append]; exact ⟨rfl, rfl⟩
            have hxl : (iC l1).length = l1.length := iC_len l1
            generalize (nt L i).st = z at *
            clear hl2 hst hlt
            go_wp2_with (at_builtin; refine list_lies_wide _ rfl _ _ 37 rfl w1.heap.size 3 j0 _ 1 8 Tryd.underlying37 hj0 hy0 hy1 hy2 rfl (by decide) _ _ _ rfl (HO.out.alloc _) ⟨wr.heap.size, 0, none⟩ 1 1 [.int .i64 (i : Int)] rfl rfl (World.news_of_block (cs := #[.int .i64 (i : Int)]) (t := 3) (fr := (0, 0)) (heap_alloc_new wr _)) (by simp [Value.oneCell']) (by decide) (by unfold maxLen; omega) (by omega) (by simp; omega) _ rfl ?_)
            intro gg cap2 w3 hown1 hgrow hat hlt3
            have HO5 : Hid (w3.ownsRow w1.heap.size 3 1 (.slice (some ⟨gg, 0, none⟩) (l1.length + 1) cap2) l2.length (iC l2)) := by rw [Hid, HL2.out.1, HL2.out.2]; exact hown1
            have HB5 : Hid (Below w1.heap.size w1 w3) := by
              have k : Keep (Value.slice oa l1.length oc).ownBlock.toList wr w3 := (((Keep.refl [] wr).alloc _).mono (by simp)).grown hgrow (fun b hb => Or.inl (by rw [hb]; simp))
              exact HB.out.trans (k.below HB.out.size (fun x hx => (own_block HO.out x (by simpa using hx)).1))
            clear hown1 hgrow hat hlt3 hxl hbd
            go_wp2_with fail
            go_roundw
            case rel => exact ⟨i + 1, HIL.out, by first | (rw [hwi.out]; go_num) | go_num, by rw [HE2.out]; exact HO5, HB5⟩
            case measure => first | (rw [hwi.out]; simpa [intOf] using HMS.out) | (simpa [intOf] using HMS.out)
          · have dst : ((nt L i).st == (s : Int)) = false := by simpa using hst
            have HO5 : Hid (wr.ownsRow w1.heap.size 3 1 (.slice oa (ordA L N (s - 1) ++ ordB L (s : Int) i).length oc) (ordA L N (s - 1) ++ ordB L (s : Int) (i + 1)).length (iC (ordA L N (s - 1) ++ ordB L (s : Int) (i + 1)))) := by rw [ordB_not hst]; exact HO
            generalize (nt L i).st = z at *
            clear hst hlt hbd
            go_wp2_with fail
            go_roundw
            case rel => exact ⟨i + 1, HIL.out, by first | (rw [hwi.out]; go_num) | go_num, HO5, HB⟩
            case measure => first | (rw [hwi.out]; simpa [intOf] using HMS.out) | (simpa [intOf] using HMS.out)
        · obtain rfl : i = N := by omega
          have hid : decide ((i : Int) < (i : Int)) = false := by simp
          have HO5 : Hid (wr.ownsRow w1.heap.size 3 1 (.slice oa (ordA L i (s - 1) ++ ordB L (s : Int) i).length oc) (ordA L i (s + 1 - 1)).length (iC (ordA L i (s + 1 - 1)))) := by
            rw [show s + 1 - 1 = s from rfl, ← ordA_next HS.out.1]; exact HO
          clear HO hlt
          go_wp2_with fail
          go_roundw
          case rel => exact ⟨s + 1, by omega, by have := HS.out; omega, by first | (rw [hws.out]; go_num) | go_num, HO5, HB⟩
          case measure => first | (rw [hws.out]; simpa [intOf] using HMN.out) | (simpa [intOf] using HMN.out)
    · obtain rfl : s = N + 1 := by omega
      have hsd : decide (((N + 1 : Nat) : Int) ≤ (N : Int)) = false := by simp; omega
      obtain ⟨sz, hsz⟩ : ∃ z : Int, ((N + 1 : Nat) : Int) = z := ⟨_, rfl⟩
      rw [hsz] at hsd
      rw [hsz]
      clear hsz
      obtain ⟨x6, rfl⟩ : ∃ x6, x6 = wr := ⟨_, rfl⟩
      have HW : Hid (Below w.heap.size w x6) := HB1.out.trans (HB.out.mono HB1.out.size)
      have HLr : Hid (x6.ownsRow w.heap.size 57 6 (.slice la N lc) N (t6s L)) := own_keep HOL.out (Keep.of_below HB.out []) (by simp)
      have HOr : Hid (x6.ownsRow w1.heap.size 3 1 (.slice oa op.length oc) op.length (iC op)) := by rw [Hid, HPE.out]; exact HO.out
      have hnn : (ordA L N (N + 1 - 1)).length = op.length := by rw [HPE.out]; rfl
      have HMEM : Hid (∀ i, i < op.length → ∃ q : Nat, ni op i = (q : Int) ∧ q < N) := fun i hi => ordA_mem N (by rw [← HPE.out]; exact ni_mem hi)
      rw [hnn]
      clear hnn HO hlt hs1 hsN HB
      go_wp2_with fail
      go_loopw [12, 13] (fun ov cv wr => ∃ c : Nat, c ≤ m ∧ cv = .int .i64 (c : Int) ∧ Hid (wr.ownsRow x6.heap.size 2 1 ov c (finC fv c)) ∧ Hid (Below x6.heap.size x6 wr)) (fun _ cv _ => (m - (intOf cv).toNat))
      case atStart => exact ⟨0, Nat.zero_le _, rfl, ⟨rfl, Or.inl ⟨rfl, rfl⟩⟩, Below.refl _ _⟩
      case round =>
        obtain ⟨c, hc, rfl, HC, HZ⟩ := hrel
        obtain ⟨ca, cc, rfl⟩ := own_slice HC.out
        by_cases hlt : c < m
        · have hcd : decide ((c : Int) < (m : Int)) = true := by simp; omega
          have hwc : Hid (wrap64 ((c : Int) + 1) = (c : Int) + 1) := inc_cast (b := m) (by have := HM.out; omega) (Nat.le_of_lt hlt)
          have HMS : Hid (m - (c + 1) < m - c) := by rw [Hid]; omega
          have HCL : Hid (c < m) := hlt
          have HBF : Hid (Calls Tryd.prog 37 #[v, .slice la N lc, .slice oa op.length oc, .int .i64 (op.length : Int), .int .i64 (c : Int)] wr fun e w' => e = .returned (.int .i64 (fv (c : Int))) ∧ w' = wr) := by
            rw [HFV.out]
            exact before_any (HEV.out.later (HW.out.trans (HZ.out.mono HW.out.size)) (Nat.le_refl _)) (own_keep HLr.out (Keep.of_below HZ.out []) (by simp)) HLL.out (own_il (own_keep HOr.out (Keep.of_below HZ.out []) (by simp)) rfl (by have := HPL.out; have := HNM.out; omega)) (Nat.le_refl _) (Nat.le_trans HPL.out HNM.out) HMEM.out _
          have hwr : x6.heap.size ≤ wr.heap.size := HZ.out.size
          have hcm : c ≤ 1024 := by have := HM.out; omega
          have hxl : (finC fv c).length = c := finC_len _ _
          have HFS : Hid (finC fv (c + 1) = finC fv c ++ [.int .i64 (fv (c : Int))]) := finC_step _ _
          generalize fv (c : Int) = z at *
          obtain ⟨xs2, hx2⟩ : ∃ x, finC fv (c + 1) = x := ⟨_, rfl⟩
          rw [hx2] at HFS
          have HX2 : Hid (finC fv (c + 1) = xs2) := hx2
          clear hx2
          generalize finC fv c = xs1 at *
          clear hc hlt
          go_wp2_with fail
          refine HBF.out.mono ?_
          rintro e wq ⟨rfl, rfl⟩
          go_wp2_with (at_builtin; refine list_lies_wide _ rfl _ _ 49 rfl x6.heap.size 2 i0 _ 1 8 Tryd.underlying49 hi0 hz0 hz1 hz2 rfl (by decide) _ _ _ rfl (HC.out.alloc _) ⟨wq.heap.size, 0, none⟩ 1 1 [.int .i64 z] rfl rfl (World.news_of_block (cs := #[.int .i64 z]) (t := 2) (fr := (0, 0)) (heap_alloc_new wq _)) (by simp [Value.oneCell']) (by decide) (by unfold maxLen; omega) (by omega) (by simp; omega) _ rfl ?_)
          intro gg cap2 w3 hown1 hgrow hat hlt3
          have HO5 : Hid (w3.ownsRow x6.heap.size 2 1 (.slice (some ⟨gg, 0, none⟩) (c + 1) cap2) (c + 1) xs2) := by rw [Hid, HFS.out]; exact hown1
          have HB5 : Hid (Below x6.heap.size x6 w3) := by
            have k : Keep (Value.slice ca c cc).ownBlock.toList wq w3 := (((Keep.refl [] wq).alloc _).mono (by simp)).grown hgrow (fun b hb => Or.inl (by rw [hb]; simp))
            exact HZ.out.trans (k.below HZ.out.size (fun x hx => (own_block HC.out x (by simpa using hx)).1))
          clear hown1 hgrow hat hlt3 hxl
          go_wp2_with fail
          go_roundw
          case rel => exact ⟨c + 1, HCL.out, by first | (rw [hwc.out]; go_num) | go_num, by rw [HX2.out]; exact HO5, HB5⟩
          case measure => first | (rw [hwc.out]; simpa [intOf] using HMS.out) | (simpa [intOf] using HMS.out)
        · obtain rfl : c = m := by omega
          have hcd : decide ((c : Int) < (c : Int)) = false := by simp
          go_wp2_with fail
          go_ret2
          exact ⟨.yes (.slice ca c cc) HAM.out HNR.out (by rw [Int.toNat_natCast, HFE.out]; exact own_base HC.out HW.out.size), HW.out.trans (HZ.out.mono HW.out.size)⟩
end Go.Proofs.YtbpnookejildnaaDoor.Hi
