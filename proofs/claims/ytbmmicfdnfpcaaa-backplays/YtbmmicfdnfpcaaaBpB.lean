/- The document's machine of layer 11: what it looks at next. -/
import Derived.Test.YtbmmicfdnfpcaaaBpA
import Derived.Test.YtbmmicfdnfpcaaaBkH
import Derived.Deep.RegionHeld3
namespace Go.Proofs.Ytbmmicfdnfpcaaa
open Go.ChangeShapes Go.WideShapes Go.ChangeAt Go.RowKit
attribute [local go_sem ↓] Go.wp_at_zero Go.wp_at_succ

theorem drop_at_end {l : List Int} {a : Nat} (h : a = l.length) : l.drop a = [] := by rw [h]; exact List.drop_length
theorem drop_at_in {l : List Int} {a : Nat} (h : a < l.length) : l.drop a = l.getD a 0 :: l.drop (a + 1) := by
  rw [List.drop_eq_getElem_cons h, List.getD_eq_getElem?_getD, List.getElem?_eq_getElem h]
  rfl
theorem lkE_end {P : Bp} {st : Int} {l : List Int} {a : Nat} (h : a = l.length) : lkE P st (l.drop a) = loH P st true := by rw [drop_at_end h]; rfl
theorem lkE_in {P : Bp} {st : Int} {l : List Int} {a : Nat} (h : a < l.length) : lkE P st (l.drop a) = loT (st == P.st - 1) := by rw [drop_at_in h]; rfl
set_option maxRecDepth 100000 in
set_option maxHeartbeats 6400000 in
theorem looks_known {w : World} {base Y : Nat} {P : Bp} {mu : Bool} {x : Dc} {G : List Nat} {lv kv : Value} (h : DM' w base Y P mu x G lv kv) (hk : knB P mu = true) :
    Calls Try.prog 36 #[.pointer (some ⟨Y, 0, none⟩)] w fun e w' => e = .returned (.agg (loC (lkD P mu x.l))) ∧ Below w.heap.size w w' := by
  have HE : Hid (loC (lkD P mu x.l) = #[.bool true, .bool true, .bool false, .bool false, .int .i64 0, .int .i64 0, .int .i64 0, .int .i64 0]) := by rw [Hid]; unfold lkD; rw [hk]; rfl
  obtain ⟨y0, y1, y2, y3, y12, y13, y14⟩ := h.m.cells
  have hY : Y < w.heap.size := heap_lt h.m
  rw [HE.out]
  have hc : mu = false ∨ (mu = true ∧ ((P.s : Int) == 1) = true) ∨ (mu = true ∧ ((P.s : Int) == 1) = false ∧ (P.st == 1) = true) := by
    unfold knB at hk
    cases mu
    · exact Or.inl rfl
    · right
      by_cases h1 : P.s = 1
      · left; exact ⟨rfl, by simp [h1]⟩
      · right
        have h2 : P.st = 1 := by simpa [h1] using hk
        exact ⟨rfl, by simp; omega, by simp [h2]⟩
  clear h hk HE
  rcases hc with rfl | ⟨rfl, k1⟩ | ⟨rfl, k1, k2⟩
  all_goals
    go_enter Try.func36, Try.ntmps36
    go_wp2
    exact ret_lo rfl rfl (heap_alloc_new _ _) rfl rfl ⟨rfl, below_a1 _ _⟩
set_option maxRecDepth 100000 in
set_option maxHeartbeats 6400000 in
theorem looks_on {w : World} {base Y : Nat} {P : Bp} {mu : Bool} {x : Dc} {G : List Nat} {lv kv : Value} (h : DM' w base Y P mu x G lv kv) (hp : BpOk P) (hk : knB P mu = false) (hw : ∀ v ∈ x.l, W64 v) (hlen : x.l.length ≤ 9 * P.s) :
    Calls Try.prog 36 #[.pointer (some ⟨Y, 0, none⟩)] w fun e w' => e = .returned (.agg (loC (lkD P mu x.l))) ∧ Below w.heap.size w w' := by
  obtain ⟨hmu, hs1, hst1⟩ : mu = true ∧ P.s ≠ 1 ∧ P.st ≠ 1 := by
    unfold knB at hk
    simp only [Bool.or_eq_false_iff, Bool.not_eq_false', decide_eq_false_iff_not] at hk
    exact ⟨hk.1.1, hk.1.2, hk.2⟩
  have h16 := hp.s16
  have h01 := hp.s1
  have h21 := hp.st1
  have h22 := hp.st2
  have hY : Y < w.heap.size := heap_lt h.m
  obtain ⟨ka, kcap, hkv⟩ := own_slice h.ownL
  have HY : Hid (∀ w', Below w.heap.size w w' → w'.cell? ⟨Y, 0, none⟩ = some (.int .i64 (P.s : Int)) ∧ w'.cell? ⟨Y, 2, none⟩ = some (.int .i64 P.st) ∧ w'.cell? ⟨Y, 13, none⟩ = some (.slice ka x.l.length kcap)) := fun w' hb => by
    obtain ⟨y0, y1, y2, y3, y12, y13, y14⟩ := (h.m.below hb hY).cells
    exact ⟨y0, y2, by rw [y13, hkv]⟩
  have HSG : Hid (∀ w', Below w.heap.size w w' → ∀ j, j < 8 → w'.cell? ⟨Y, 4 + j, none⟩ = some (.int .u64 ((P.sg.getD j 0 : Nat) : Int))) := fun w' hb j hj => (h.m.below hb hY).sigAt j hj
  have HL : Hid (∀ w', Below w.heap.size w w' → ∀ i, i < x.l.length → ∃ g, ka = some ⟨g, 0, none⟩ ∧ w'.cell? ⟨g, i, none⟩ = some (.int .i64 (x.l.getD i 0))) := fun w' hb i hi => by
    have ho := own_keep h.ownL (Keep.of_below hb []) (fun _ _ => by simp)
    rw [hkv] at ho
    obtain ⟨g, cap2, hfm, -⟩ := ho.form (by omega)
    simp at hfm
    obtain ⟨rfl, rfl⟩ := hfm
    exact ⟨g, rfl, own_num ho i hi⟩
  have HW : Hid (∀ i, i < x.l.length → W64 (x.l.getD i 0)) := fun i hi => hw _ (by rw [List.getD_eq_getElem?_getD, List.getElem?_eq_getElem hi]; simp)
  have HOK : Hid (Sg.Ok P.sg) := by rw [Hid, hp.sg]; exact sgOf_ok _
  have HSL : Hid (∀ st w, Calls Try.prog 35 #[.int .i64 st, .int .i64 (P.s : Int)] w fun e w' => e = .returned (.int .i64 (slotV st P.s)) ∧ w' = w) := fun st w => rslot_any st P.s w
  have HOV : Hid (∀ i, i < x.l.length → ∀ st w, Calls Try.prog 38 #[.int .i64 (x.l.getD i 0), .int .i64 st] w fun e w' => e = .returned (.bool (overV (x.l.getD i 0) st)) ∧ w' = w) := fun i hi st w => rover_any _ st (HW.out i hi).1 (HW.out i hi).2 w
  have HE0 : Hid (lkD P mu x.l = lkA P (P.st - 1) (x.l.drop 0)) := lkD_go hk x.l
  generalize hLK : lkD P mu x.l = LK at *
  clear hLK
  have y0' := (h.m).cells.1
  have y1' := (h.m).cells.2.1
  have y2' := (h.m).cells.2.2.1
  subst hmu
  have k1 : ((P.s : Int) == 1) = false := by simp; omega
  have k2 : (P.st == 1) = false := by simp [hst1]
  have b1 : wrap64 (P.st - 1) = P.st - 1 := by unfold wrap64; omega
  have b2 : wrap64 (P.st - (P.s : Int)) = P.st - (P.s : Int) := by unfold wrap64; omega
  have hln : x.l.length ≤ 144 := by omega
  obtain ⟨st, HST⟩ : ∃ st : Int, Hid (st = P.st) := ⟨_, rfl⟩
  have HBG : Hid (1 ≤ P.s ∧ P.s ≤ 16 ∧ 1 ≤ P.st ∧ P.st ≤ 1099511627776) := ⟨h01, h16, h21, h22⟩
  generalize hl : x.l = l at *
  clear h hp hk hw hlen hkv hs1 hst1 hl
  generalize hnl : l.length = nl at *
  have HNL : Hid (l.length = nl) := hnl
  clear hnl h01 h16 h21 h22
  go_enter Try.func36, Try.ntmps36
  go_wp2_with fail
  clear y0' y1' y2' k1 k2
  try simp only [b1]
  go_loopw [3, 4] (fun av sv wr => ∃ (a : Nat) (s : Int), a ≤ nl ∧ av = .int .i64 a ∧ sv = .int .i64 s ∧ P.st - (P.s : Int) ≤ s ∧ 0 ≤ s ∧ s < P.st ∧ LK = lkA P s (l.drop a) ∧ wr.heap[w.heap.size]? = some (.cells noLo 98 (0, 0)) ∧ Below w.heap.size w wr) (fun _ sv _ => (intOf sv).toNat)
  case atStart => exact ⟨0, P.st - 1, Nat.zero_le _, rfl, by simp, by have := HBG.out; omega, by have := HBG.out; omega, by omega, HE0.out, heap_alloc_new _ _, below_a1 _ _⟩
  case round =>
    obtain ⟨a, s, ha, rfl, rfl, hs1, hs0, hs2, hlk, hrow, hbel⟩ := hrel
    have HR : Hid (wr.heap[w.heap.size]? = some (.cells noLo 98 (0, 0))) := hrow
    have HB : Hid (Below w.heap.size w wr) := hbel
    have HLK : Hid (LK = lkA P s (l.drop a)) := hlk
    clear hrow hbel hlk HE0
    obtain ⟨y0, y2, y13⟩ := HY.out _ HB.out
    by_cases hend : s < 1 ∨ s ≤ P.st - (P.s : Int)
    · have HF : Hid (LK = loT false) := by rw [Hid, HLK.out, lkA_end _ hend]
      have hc : decide (1 ≤ s) = false ∨ (decide (1 ≤ s) = true ∧ decide (P.st - (P.s : Int) < s) = false) := by
        by_cases h1 : 1 ≤ s
        · exact Or.inr ⟨decide_eq_true h1, decide_eq_false (by omega)⟩
        · exact Or.inl (decide_eq_false h1)
      have b3 : IntKind.i64.wrap (P.st - (P.s : Int)) = P.st - (P.s : Int) := by have := HBG.out; rw [IntKind.wrap_i64]; omega
      rcases hc with c1 | ⟨c1, c2⟩
      all_goals
        go_wp2_with fail
        go_quiet (fail)
        obtain ⟨x5, hx5⟩ : ∃ x5, x5 = wr.drewN nq := ⟨_, rfl⟩
        rw [← hx5]
        have HB5 : Hid (Below w.heap.size w x5) := by rw [Hid, hx5]; exact below_drawn HB.out _
        have HR5 : Hid (x5.heap[w.heap.size]? = some (.cells noLo 98 (0, 0))) := by rw [Hid, hx5]; exact row_on HR.out (below_drawn (Below.refl _ _) _)
        clear hx5
        obtain ⟨⟨p0, p1, p2, p3, p4, p5, p6, p7⟩, f0, f1, f2, f3, f4, f5, f6, f7⟩ := lo_cells HR5.out
        have hz := heap_lt HR5.out
        clear y0 y2 y13
        go_wp2
        exact ret_lo rfl rfl (lo_set HR5.out _ _ _ _ _ _ _ _) rfl rfl ⟨by (rw [HF.out]) <;> rfl, belowL HB5.out (Nat.le_refl _) _ _ _ _ _ _ _ _⟩
    · have c1 : decide (1 ≤ s) = true := decide_eq_true (by omega)
      have c2 : decide (P.st - (P.s : Int) < s) = true := decide_eq_true (by omega)
      have b3 : IntKind.i64.wrap (P.st - (P.s : Int)) = P.st - (P.s : Int) := by have := HBG.out; rw [IntKind.wrap_i64]; omega
      have HSE : Hid (loC (loH P s false) = #[.bool false, .bool false, .bool false, .bool true, .int .i64 s, .int .i64 2, .int .i64 (slotV s P.s), .int .i64 0]) := rfl
      have HSM : Hid (loC (loH P s true) = #[.bool false, .bool false, .bool true, .bool true, .int .i64 s, .int .i64 2, .int .i64 (slotV s P.s), .int .i64 0]) := rfl
      have HSW : Hid (∀ j : Nat, loC (loW P s j) = #[.bool false, .bool false, .bool false, .bool false, .int .i64 s, .int .i64 3, .int .i64 (slotV s P.s), .int .i64 (j : Int)]) := fun _ => rfl
      have HST2 : Hid (∀ k : Bool, loC (loT k) = #[.bool true, .bool k, .bool false, .bool false, .int .i64 0, .int .i64 0, .int .i64 0, .int .i64 0]) := fun _ => rfl
      have HSS : Hid (∀ w, Calls Try.prog 35 #[.int .i64 s, .int .i64 (P.s : Int)] w fun e w' => e = .returned (.int .i64 (slotV s P.s)) ∧ w' = w) := HSL.out s
      generalize slotV s P.s = sl at *
      have HEND : Hid (¬ (s < 1 ∨ s ≤ P.st - (P.s : Int))) := hend
      have HSB : Hid (P.st - (P.s : Int) ≤ s ∧ 0 ≤ s ∧ s < P.st) := ⟨hs1, hs0, hs2⟩
      have hwa : wrap64 ((a : Int) + 1) = (a : Int) + 1 := by unfold wrap64; omega
      have hws : wrap64 (s - 1) = s - 1 := by have := HBG.out; unfold wrap64; omega
      go_wp2_with fail
      go_quiet (fail)
      obtain ⟨x5, hx5⟩ : ∃ x5, x5 = wr.drewN nq := ⟨_, rfl⟩
      rw [← hx5]
      have HB5 : Hid (Below w.heap.size w x5) := by rw [Hid, hx5]; exact below_drawn HB.out _
      have HR5 : Hid (x5.heap[w.heap.size]? = some (.cells noLo 98 (0, 0))) := by rw [Hid, hx5]; exact row_on HR.out (below_drawn (Below.refl _ _) _)
      clear hx5
      clear y0 y2 y13 HR HB c1 c2 b3 b2 hend hs1 hs0 hs2
      obtain ⟨y0, y2, y13⟩ := HY.out _ HB5.out
      go_wp2_with fail
      refine (HSS.out _).mono ?_
      rintro e x6 ⟨rfl, rfl⟩
      by_cases han : a = nl
      · have HF : Hid (loC LK = #[.bool false, .bool false, .bool false, .bool true, .int .i64 s, .int .i64 2, .int .i64 sl, .int .i64 0]) := by rw [Hid, HLK.out, drop_at_end (by rw [HNL.out]; exact han), lkA_nil HEND.out]; exact HSE.out
        have da : ((a : Int) == (nl : Int)) = true := by simp; omega
        obtain ⟨⟨p0, p1, p2, p3, p4, p5, p6, p7⟩, f0, f1, f2, f3, f4, f5, f6, f7⟩ := lo_cells HR5.out
        have hz := heap_lt HR5.out
        go_wp2
        exact ret_lo rfl rfl (lo_set HR5.out _ _ _ _ _ _ _ _) rfl rfl ⟨by (rw [HF.out]) <;> rfl, belowL HB5.out (Nat.le_refl _) _ _ _ _ _ _ _ _⟩
      · have hlt : a < nl := by omega
        have da : ((a : Int) == (nl : Int)) = false := by simp; omega
        have hlt' : (a : Int) < (nl : Int) := by omega
        obtain ⟨g, rfl, hgc⟩ := HL.out _ HB5.out a hlt
        have HC : Hid (LK = if overV (l.getD a 0) s then loT (s == P.st - 1) else lkB P s 0 (l.drop (a + 1))) := by rw [Hid, HLK.out, drop_at_in (by rw [HNL.out]; exact hlt), lkA_cons HEND.out]
        have HOA : Hid (∀ w, Calls Try.prog 38 #[.int .i64 (l.getD a 0), .int .i64 s] w fun e w' => e = .returned (.bool (overV (l.getD a 0) s)) ∧ w' = w) := HOV.out a hlt s
        generalize overV (l.getD a 0) s = ov at *
        generalize l.getD a 0 = v at *
        go_wp2_with fail
        refine (HOA.out _).mono ?_
        rintro e x6 ⟨rfl, rfl⟩
        cases ov
        · have HLB : Hid (LK = lkB P s 0 (l.drop (a + 1))) := by rw [Hid, HC.out]; exact if_neg (by simp)
          clear HC HOA hgc HLK
          go_wp2
          have HA1 : Hid (a + 1 ≤ nl) := hlt
          have HWSs : Hid (wrap64 (s - 1) = s - 1) := hws
          clear hwa da hlt' han hlt ha hws y0 y2 y13
          go_loopw [3, 7] (fun av jv wr => ∃ a j : Nat, a ≤ nl ∧ j ≤ 8 ∧ av = .int .i64 a ∧ jv = .int .i64 j ∧ LK = lkB P s j (l.drop a) ∧ wr.heap[w.heap.size]? = some (.cells noLo 98 (0, 0)) ∧ Below w.heap.size w wr) (fun _ jv _ => 8 - (intOf jv).toNat)
          case atStart => exact ⟨a + 1, 0, HA1.out, by omega, by go_num, rfl, HLB.out, HR5.out, HB5.out⟩
          case round =>
            obtain ⟨c, j, hc1, hj8, rfl, rfl, hlk, hrow, hbel⟩ := hrel
            have HR6 : Hid (wr.heap[w.heap.size]? = some (.cells noLo 98 (0, 0))) := hrow
            have HB6 : Hid (Below w.heap.size w wr) := hbel
            have HLC : Hid (LK = lkB P s j (l.drop c)) := hlk
            clear hrow hbel hlk HLB HR5 HB5
            obtain ⟨y0, y2, y13⟩ := HY.out _ HB6.out
            have hwc : wrap64 ((c : Int) + 1) = (c : Int) + 1 := by unfold wrap64; omega
            have hwj : wrap64 ((j : Int) + 1) = (j : Int) + 1 := by unfold wrap64; omega
            by_cases hj : j < 8
            · have hj' : (j : Int) < 8 := by omega
              have sc := HSG.out _ HB6.out j hj
              have hsl : P.sg.getD j 0 < 18446744073709551616 := HOK.out.2 j
              have HZ0 : Hid (P.sg.getD j 0 = 0 → LK = lkB P s (j + 1) (l.drop c)) := fun h => by rw [HLC.out, lkB_zero hj h]
              have HZ1 : Hid (P.sg.getD j 0 ≠ 0 → c = nl → loC LK = #[.bool false, .bool false, .bool false, .bool false, .int .i64 s, .int .i64 3, .int .i64 sl, .int .i64 (j : Int)]) := fun h hc => by rw [HLC.out, drop_at_end (by rw [HNL.out]; exact hc), lkB_nil hj h]; exact HSW.out j
              have HZ2 : Hid (P.sg.getD j 0 ≠ 0 → c < nl → LK = if (((IntKind.u64.wrap (l.getD c 0)).toNat &&& P.sg.getD j 0) != 0) then lkE P s (l.drop (c + 1)) else lkB P s (j + 1) (l.drop (c + 1))) := fun h hc => by rw [HLC.out, drop_at_in (by rw [HNL.out]; exact hc), lkB_cons hj h]; rfl
              generalize P.sg.getD j 0 = sj at *
              by_cases hz0 : sj = 0
              · subst hz0
                have HN : Hid (LK = lkB P s (j + 1) (l.drop c)) := HZ0.out rfl
                go_wp2
                go_roundw
                case rel => exact ⟨c, j + 1, hc1, by omega, rfl, by go_num, HN.out, HR6.out, HB6.out⟩
                case measure => simp [intOf]; omega
              · have hzz : ((sj : Int) == 0) = false := by simp; omega
                have hzd : ¬ (sj : Int) = 0 := by omega
                by_cases hcn : c = nl
                · have HF : Hid (loC LK = #[.bool false, .bool false, .bool false, .bool false, .int .i64 s, .int .i64 3, .int .i64 sl, .int .i64 (j : Int)]) := HZ1.out hz0 hcn
                  have da2 : ((c : Int) == (nl : Int)) = true := by simp; omega
                  obtain ⟨⟨p0, p1, p2, p3, p4, p5, p6, p7⟩, f0, f1, f2, f3, f4, f5, f6, f7⟩ := lo_cells HR6.out
                  have hz := heap_lt HR6.out
                  go_wp2
                  exact ret_lo rfl rfl (lo_set HR6.out _ _ _ _ _ _ _ _) rfl rfl ⟨by (rw [HF.out]) <;> rfl, belowL HB6.out (Nat.le_refl _) _ _ _ _ _ _ _ _⟩
                · have hcl : c < nl := by omega
                  have da2 : ((c : Int) == (nl : Int)) = false := by simp; omega
                  have hcl' : (c : Int) < (nl : Int) := by omega
                  obtain ⟨g2, hg2, hgc⟩ := HL.out _ HB6.out c hcl
                  simp at hg2
                  subst hg2
                  have HC2 := HZ2.out hz0 hcl
                  generalize l.getD c 0 = v2 at *
                  obtain ⟨u, hu⟩ : ∃ u : Nat, IntKind.u64.wrap v2 = (u : Int) := ⟨(IntKind.u64.wrap v2).toNat, by have := (u64_bd v2).1; omega⟩
                  have hul : u < 18446744073709551616 := by have := (u64_bd v2).2; rw [hu] at this; simpa using this
                  have hand : bits .and .u64 (sj : Int) (u : Int) = ((sj &&& u : Nat) : Int) := bits_and_u64_nat _ _ hsl hul
                  have HC3 : Hid (LK = if ((sj &&& u) != 0) then lkE P s (l.drop (c + 1)) else lkB P s (j + 1) (l.drop (c + 1))) := by rw [Hid, HC2, hu, Nat.and_comm]; rfl
                  clear HC2 HZ0 HZ1 HZ2 HLC
                  generalize sj &&& u = q at *
                  by_cases hq : q = 0
                  · subst hq
                    have HN : Hid (LK = lkB P s (j + 1) (l.drop (c + 1))) := by rw [Hid, HC3.out]; exact if_neg (by simp)
                    go_wp2_with fail
                    go_quiet (fail)
                    obtain ⟨x7, hx7⟩ : ∃ x7, x7 = wr.drewN nq := ⟨_, rfl⟩
                    rw [← hx7]
                    have HB7 : Hid (Below w.heap.size w x7) := by rw [Hid, hx7]; exact below_drawn HB6.out _
                    have HR7 : Hid (x7.heap[w.heap.size]? = some (.cells noLo 98 (0, 0))) := by rw [Hid, hx7]; exact row_on HR6.out (below_drawn (Below.refl _ _) _)
                    clear hx7
                    go_wp2
                    go_roundw
                    case rel => exact ⟨c + 1, j + 1, by omega, by omega, by go_num, by go_num, HN.out, HR7.out, HB7.out⟩
                    case measure => simp [intOf]; omega
                  · have hq' : ¬ (q : Int) = 0 := by omega
                    have hq2 : decide ((q : Int) = 0) = false := decide_eq_false hq'
                    have hq3 : ((q : Int) == 0) = false := by simp; omega
                    have HN : Hid (LK = lkE P s (l.drop (c + 1))) := by rw [Hid, HC3.out]; exact if_pos (by simpa using hq)
                    by_cases hcn2 : c + 1 = nl
                    · have HF : Hid (loC LK = #[.bool false, .bool false, .bool true, .bool true, .int .i64 s, .int .i64 2, .int .i64 sl, .int .i64 0]) := by rw [Hid, HN.out, lkE_end (by rw [HNL.out]; exact hcn2)]; exact HSM.out
                      have da3 : ((c : Int) + 1 == (nl : Int)) = true := by simp; omega
                      go_wp2_with fail
                      go_quiet (fail)
                      obtain ⟨x7, hx7⟩ : ∃ x7, x7 = wr.drewN nq := ⟨_, rfl⟩
                      rw [← hx7]
                      have HB7 : Hid (Below w.heap.size w x7) := by rw [Hid, hx7]; exact below_drawn HB6.out _
                      have HR7 : Hid (x7.heap[w.heap.size]? = some (.cells noLo 98 (0, 0))) := by rw [Hid, hx7]; exact row_on HR6.out (below_drawn (Below.refl _ _) _)
                      clear hx7
                      clear y0 y2 y13
                      obtain ⟨y0, y2, y13⟩ := HY.out _ HB7.out
                      obtain ⟨⟨p0, p1, p2, p3, p4, p5, p6, p7⟩, f0, f1, f2, f3, f4, f5, f6, f7⟩ := lo_cells HR7.out
                      have hz := heap_lt HR7.out
                      go_wp2
                      exact ret_lo rfl rfl (lo_set HR7.out _ _ _ _ _ _ _ _) rfl rfl ⟨by (rw [HF.out]) <;> rfl, belowL HB7.out (Nat.le_refl _) _ _ _ _ _ _ _ _⟩
                    · have HF : Hid (loC LK = #[.bool true, .bool (s == P.st - 1), .bool false, .bool false, .int .i64 0, .int .i64 0, .int .i64 0, .int .i64 0]) := by rw [Hid, HN.out, lkE_in (by rw [HNL.out]; omega)]; exact HST2.out _
                      have da3 : ((c : Int) + 1 == (nl : Int)) = false := by simp; omega
                      go_wp2_with fail
                      go_quiet (fail)
                      obtain ⟨x7, hx7⟩ : ∃ x7, x7 = wr.drewN nq := ⟨_, rfl⟩
                      rw [← hx7]
                      have HB7 : Hid (Below w.heap.size w x7) := by rw [Hid, hx7]; exact below_drawn HB6.out _
                      have HR7 : Hid (x7.heap[w.heap.size]? = some (.cells noLo 98 (0, 0))) := by rw [Hid, hx7]; exact row_on HR6.out (below_drawn (Below.refl _ _) _)
                      clear hx7
                      clear y0 y2 y13
                      obtain ⟨y0, y2, y13⟩ := HY.out _ HB7.out
                      obtain ⟨⟨p0, p1, p2, p3, p4, p5, p6, p7⟩, f0, f1, f2, f3, f4, f5, f6, f7⟩ := lo_cells HR7.out
                      have hz := heap_lt HR7.out
                      go_wp2
                      exact ret_lo rfl rfl (lo_set HR7.out _ _ _ _ _ _ _ _) rfl rfl ⟨by (rw [HF.out]) <;> rfl, belowL HB7.out (Nat.le_refl _) _ _ _ _ _ _ _ _⟩
            · obtain rfl : j = 8 := by omega
              have HLN : Hid (LK = lkA P (s - 1) (l.drop c)) := by rw [Hid, HLC.out]; exact lkB_end _
              have hj' : ¬ ((8 : Nat) : Int) < 8 := by omega
              have hws := HWSs.out
              clear hwc hwj y0 y2 y13
              go_wp2
              go_roundw
              case rel => exact ⟨c, s - 1, hc1, rfl, by first | rfl | simp [hws], by have := HSB.out; have := HEND.out; omega, by have := HSB.out; have := HEND.out; omega, by have := HSB.out; omega, HLN.out, HR6.out, HB6.out⟩
              case measure => simp [intOf, hws]; have := HSB.out; have := HEND.out; omega
        · have HF : Hid (loC LK = #[.bool true, .bool (s == P.st - 1), .bool false, .bool false, .int .i64 0, .int .i64 0, .int .i64 0, .int .i64 0]) := by rw [Hid, HC.out, if_pos rfl]; exact HST2.out _
          obtain ⟨⟨p0, p1, p2, p3, p4, p5, p6, p7⟩, f0, f1, f2, f3, f4, f5, f6, f7⟩ := lo_cells HR5.out
          have hz := heap_lt HR5.out
          go_wp2
          exact ret_lo rfl rfl (lo_set HR5.out _ _ _ _ _ _ _ _) rfl rfl ⟨by (rw [HF.out]) <;> rfl, belowL HB5.out (Nat.le_refl _) _ _ _ _ _ _ _ _⟩
theorem looks_any {w : World} {base Y : Nat} {P : Bp} {mu : Bool} {x : Dc} {G : List Nat} {lv kv : Value} (h : DM' w base Y P mu x G lv kv) (hp : BpOk P) (hw : ∀ v ∈ x.l, W64 v) (hlen : x.l.length ≤ 9 * P.s) :
    Calls Try.prog 36 #[.pointer (some ⟨Y, 0, none⟩)] w fun e w' => e = .returned (.agg (loC (lkD P mu x.l))) ∧ Below w.heap.size w w' := by
  cases hk : knB P mu
  · exact looks_on h hp hk hw hlen
  · exact looks_known h hk
end Go.Proofs.Ytbmmicfdnfpcaaa
