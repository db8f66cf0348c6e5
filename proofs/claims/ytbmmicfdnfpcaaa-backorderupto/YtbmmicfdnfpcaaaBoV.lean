/- BackOrder walked. -/
import Derived.Test.YtbmmicfdnfpcaaaBoW
import Derived.Test.YtbmmicfdnfpcaaaSigL
import Derived.Test.YtbmmicfdnfpcaaaBkT
import Derived.Deep.CutBlock
import Derived.Deep.DeepCutAuto
import Derived.Deep.LoopGhost
namespace Go.Proofs.Ytbmmicfdnfpcaaa
open Go.ChangeShapes Go.WideShapes Go.ChangeAt Go.RowKit
attribute [local go_sem ↓] Go.wp_at_zero Go.wp_at_succ

set_option maxRecDepth 100000 in
set_option maxHeartbeats 6400000 in
theorem order_walk (w : World) (raw : Int) {av bv tv : Value} {A B : List Wt} {T : List Bool} (hAv : WL w av A) (hA : ∀ i, i < A.length → W64 (A.getD i noWt).v) (hBv : WL w bv B) (hB : ∀ i, i < B.length → W64 (B.getD i noWt).v) (hT : TL w tv T) :
    Calls Try.prog 5 #[.agg #[.int .i64 raw, av, bv, tv]] w fun e w' => e = .returned (.bool true) ∧ Below w.heap.size w w' := by
  obtain ⟨i0, hi, hz0, hz1, hz2⟩ := info_parts info_wr
  have HS : Hid (∀ w : World, Calls Try.prog 6 #[] w fun e w' => e = .returned (.bool true) ∧ Below w.heap.size w w') := bshown_any
  obtain ⟨s, hs2, hs16, hse⟩ : ∃ s : Nat, 2 ≤ s ∧ s ≤ 16 ∧ raw % 15 = (s : Int) - 2 := ⟨(raw % 15 + 2).toNat, by omega, by omega, by omega⟩
  have HP : Hid (∀ w : World, Calls Try.prog 22 #[.int .i64 raw, .int .i64 15] w fun e w' => e = .returned (.int .i64 ((s : Int) - 2)) ∧ w' = w) := fun w => by rw [← hse]; exact gpick_any raw 15 (by decide) (by decide) w
  have HP8 : Hid (∀ x w, Calls Try.prog 22 #[.int .i64 x, .int .i64 8] w fun e w' => e = .returned (.int .i64 (x % 8)) ∧ w' = w) := fun x w => gpick_any x 8 (by decide) (by decide) w
  have HN : Hid (∀ w : World, Calls Try.prog 10 #[.int .i64 8, .int .i64 (s : Int)] w fun e w' => ∃ p F, e = .returned (.tuple #[p, .int .i64 0]) ∧ p ≠ .pointer none ∧ MemAt w' w.heap.size p 8 s [] F ∧ Below w.heap.size w w') := fun w => new_yes w 8 s (by decide) ⟨by omega, hs16⟩
  have HF1 : Hid (∀ (w : World) lv, WL w lv (inW A 6) → Calls Try.prog 7 #[.agg #[.int .i64 0, .int .i64 (s : Int), .int .i64 0, .int .i64 0, .bool true, .int .i64 0, .slice none 0 0], .int .i64 1, lv] w fun e w' => ∃ Z u, e = .returned (.tuple #[.pointer (some ⟨Z, 0, none⟩), .int .i64 0]) ∧ w.heap.size ≤ Z ∧ BRow w' Z (orP s 1 A) (bkNew (orP s 1 A) true) u ∧ w'.ownsRow w.heap.size 36 2 u (orP s 1 A).W.length (wtC (orP s 1 A).W) ∧ (∀ k, u.ownBlock = some k → k ≠ Z) ∧ Below w.heap.size w w') := fun w lv hl => by
    refine (bnew_any w 0 0 0 true 0 (.slice none 0 0) (P := orP s 1 A) hl (by unfold orP; simp only; omega) hs16 (by unfold orP; simp only; omega) (by unfold orP; simp only; omega) (by have := inW_len A 6; unfold orP; simp only; omega)).mono ?_
    rintro e w' ⟨hb, hh⟩
    rw [if_pos (show tkB ((orP s 1 A).s : Int) (orP s 1 A).st (orP s 1 A).W = true from orP_tk hs2 hs16 (by simp [orP]) (by simp [orP]) hA)] at hh
    obtain ⟨Z, u, rfl, h1, h2, h3, h4⟩ := hh
    exact ⟨Z, u, rfl, h1, h2, h3, h4, hb⟩
  have HF2 : Hid (∀ (w : World) lv, WL w lv (inW B 6) → Calls Try.prog 7 #[.agg #[.int .i64 0, .int .i64 (s : Int), .int .i64 0, .int .i64 0, .bool true, .int .i64 0, .slice none 0 0], .int .i64 2, lv] w fun e w' => ∃ Z u, e = .returned (.tuple #[.pointer (some ⟨Z, 0, none⟩), .int .i64 0]) ∧ w.heap.size ≤ Z ∧ BRow w' Z (orP s 2 B) (bkNew (orP s 2 B) true) u ∧ w'.ownsRow w.heap.size 36 2 u (orP s 2 B).W.length (wtC (orP s 2 B).W) ∧ (∀ k, u.ownBlock = some k → k ≠ Z) ∧ Below w.heap.size w w') := fun w lv hl => by
    refine (bnew_any w 0 0 0 true 0 (.slice none 0 0) (P := orP s 2 B) hl (by unfold orP; simp only; omega) hs16 (by unfold orP; simp only; omega) (by unfold orP; simp only; omega) (by have := inW_len B 6; unfold orP; simp only; omega)).mono ?_
    rintro e w' ⟨hb, hh⟩
    rw [if_pos (show tkB ((orP s 2 B).s : Int) (orP s 2 B).st (orP s 2 B).W = true from orP_tk hs2 hs16 (by simp [orP]) (by simp [orP]) hB)] at hh
    obtain ⟨Z, u, rfl, h1, h2, h3, h4⟩ := hh
    exact ⟨Z, u, rfl, h1, h2, h3, h4, hb⟩
  have HOQ : Hid (Oq (orP s 1 A) (orP s 2 B)) := orP_two hs2 hs16 hA hB
  have HBG : Hid (2 ≤ s ∧ s ≤ 16) := ⟨hs2, hs16⟩
  have HMT : Hid (∀ w : World, Calls Try.prog 24 #[Sg.sv (orP s 1 A).sg, Sg.sv (orP s 2 B).sg] w fun e w' => e = .returned (.bool (!(Sg.meet (orP s 1 A).sg (orP s 2 B).sg == Sg.nought))) ∧ Below w.heap.size w w') := fun w => Sg.rmeets_any _ _ (sgOf_ok _) (sgOf_ok _) w
  have w1 : IntKind.i64.wrap (2 + ((s : Int) - 2)) = (s : Int) := by rw [IntKind.wrap_i64]; omega
  have w1b : 2 + ((s : Int) - 2) = (s : Int) := by omega
  have w1c : wrap64 (s : Int) = (s : Int) := by unfold wrap64; omega
  obtain ⟨Aa, Acap, rfl, Abig, Al⟩ := hAv
  have HDA : Hid (∀ w' i, Below w.heap.size w w' → i < A.length → ∃ x, Aa = some x ∧ x.block < w.heap.size ∧ w'.cell? (x.add (i * 2)) = some (.int .i64 (A.getD i noWt).c) ∧ w'.cell? ((x.add (i * 2)).add 1) = some (.int .i64 (A.getD i noWt).v)) := fun w' i k hi => by
    rcases Al with h | ⟨x, e1, e2, e3⟩
    · rw [h] at hi; simp at hi
    · exact ⟨x, e1, e2, (k.cell (p := x.add (i * 2)) (by rw [add_block]; exact e2)).trans (e3 i hi).1, (k.cell (p := (x.add (i * 2)).add 1) (by rw [add_block, add_block]; exact e2)).trans (e3 i hi).2⟩
  have HSNA : Hid (∀ q, q < A.length → inW A (q + 1) = inW A q ++ [⟨(A.getD q noWt).c % 8, (A.getD q noWt).v⟩]) := fun q h => inW_snoc h
  have HTKA : Hid (∀ q, q = 6 ∨ (q = A.length ∧ q ≤ 6) → inW A q = inW A 6) := fun q h => inW_end h
  have HLNA : Hid (∀ q, (inW A q).length ≤ q) := fun q => inW_len A q
  have HWA0 : Hid (∀ x ∈ inW A 6, 0 ≤ x.c ∧ x.c < 8 ∧ W64 x.v) := inW_cell hA
  obtain ⟨mA, HMA⟩ : ∃ m, Hid ((inW A 6).length = m) := ⟨_, rfl⟩
  have hmA : mA ≤ 6 := by have h := inW_len A 6; rw [HMA.out] at h; exact h
  clear Al
  obtain ⟨Ba, Bcap, rfl, Bbig, Bl⟩ := hBv
  have HDB : Hid (∀ w' i, Below w.heap.size w w' → i < B.length → ∃ x, Ba = some x ∧ x.block < w.heap.size ∧ w'.cell? (x.add (i * 2)) = some (.int .i64 (B.getD i noWt).c) ∧ w'.cell? ((x.add (i * 2)).add 1) = some (.int .i64 (B.getD i noWt).v)) := fun w' i k hi => by
    rcases Bl with h | ⟨x, e1, e2, e3⟩
    · rw [h] at hi; simp at hi
    · exact ⟨x, e1, e2, (k.cell (p := x.add (i * 2)) (by rw [add_block]; exact e2)).trans (e3 i hi).1, (k.cell (p := (x.add (i * 2)).add 1) (by rw [add_block, add_block]; exact e2)).trans (e3 i hi).2⟩
  have HSNB : Hid (∀ q, q < B.length → inW B (q + 1) = inW B q ++ [⟨(B.getD q noWt).c % 8, (B.getD q noWt).v⟩]) := fun q h => inW_snoc h
  have HTKB : Hid (∀ q, q = 6 ∨ (q = B.length ∧ q ≤ 6) → inW B q = inW B 6) := fun q h => inW_end h
  have HLNB : Hid (∀ q, (inW B q).length ≤ q) := fun q => inW_len B q
  have HWB9 : Hid (∀ x ∈ inW B 6, 0 ≤ x.c ∧ x.c < 8 ∧ W64 x.v) := inW_cell hB
  obtain ⟨mB', HMB⟩ : ∃ m, Hid ((inW B 6).length = m) := ⟨_, rfl⟩
  have hmB : mB' ≤ 6 := by have h := inW_len B 6; rw [HMB.out] at h; exact h
  clear Bl
  obtain ⟨ta, tcap, rfl, htb, htl⟩ := hT
  have HTD : Hid (∀ w' i, Below w.heap.size w w' → i < T.length → ∃ x, ta = some x ∧ x.block < w.heap.size ∧ w'.cell? (x.add i) = some (.bool (T.getD i false))) := fun w' i k hi => by
    rcases htl with h | ⟨x, e1, e2, e3⟩
    · rw [h] at hi; simp at hi
    · exact ⟨x, e1, e2, (k.cell (p := x.add i) (by rw [add_block]; exact e2)).trans (e3 i hi)⟩
  clear htl hse hs2 hs16 hA hB
  generalize hnA : A.length = nA at *
  generalize hnB : B.length = nB at *
  generalize hnT : T.length = nT at *
  clear hnA hnB hnT
  go_enter Try.func5, Try.ntmps5
  go_wp2_with fail
  refine (HS.out _).mono ?_
  rintro e y1 ⟨rfl, hb1⟩
  have HB1 : Hid (Below w.heap.size w y1) := by first | exact hb1 | exact below_then (below_a1 _ _) hb1
  clear hb1 HS
  go_wp2_with fail
  refine (HP.out _).mono ?_
  rintro e y2 ⟨rfl, rfl⟩
  go_upto_block 0 with fail
  try simp only [w1c]
  go_cut [9] (fun s9 wx => wx.ownsRow y2.heap.size 36 2 s9 mA (wtC (inW A 6)) ∧ Below y2.heap.size y2 wx)
  case first =>
    go_wp2_with fail
    go_loopw [9, 11] (fun ov iv wr => ∃ q : Nat, q ≤ nA ∧ q ≤ 6 ∧ iv = .int .i64 q ∧ wr.ownsRow y2.heap.size 36 2 ov (inW A q).length (wtC (inW A q)) ∧ Below y2.heap.size y2 wr) (fun _ iv _ => 6 - (intOf iv).toNat)
    case atStart => exact ⟨0, Nat.zero_le _, by omega, rfl, by simpa [inW, wtC] using World.ownsRow_nil _ _ _ _, Below.refl _ _⟩
    case round =>
      obtain ⟨q, hq, hq4, rfl, how, hb⟩ := hrel
      have HO : Hid (wr.ownsRow y2.heap.size 36 2 u9 (inW A q).length (wtC (inW A q))) := how
      have HB : Hid (Below y2.heap.size y2 wr) := hb
      have HBB : Hid (Below w.heap.size w wr) := below_then HB1.out hb
      clear how hb
      by_cases hlt : q < nA ∧ q < 6
      · obtain ⟨hlt, hlt4⟩ := hlt
        have d1 : decide ((q : Int) < (nA : Int)) = true := by simp; omega
        have d2 : decide ((q : Int) < 6) = true := by simp; omega
        have hx1 : (q : Int) < (nA : Int) := by omega
        obtain ⟨x, rfl, hxb, c0', c1'⟩ := HDA.out _ q HBB.out hlt
        rw [add_pos' _ _ (by decide)] at c1'
        have HS2 := HSNA.out q hlt
        have hl4 := HLNA.out q
        generalize A.getD q noWt = wt at *
        obtain ⟨wc, wv⟩ := wt
        simp only at c0' c1' HS2
        have HPK : Hid (∀ w, Calls Try.prog 22 #[.int .i64 wc, .int .i64 8] w fun e w' => e = .returned (.int .i64 (wc % 8)) ∧ w' = w) := HP8.out wc
        obtain ⟨av, cv, rfl⟩ := own_slice HO.out
        have HAP : Hid (wtC (inW A q ++ [⟨wc % 8, wv⟩]) = wtC (inW A q) ++ [.int .i64 (wc % 8), .int .i64 wv]) := by rw [Hid, wtC_app]; rfl
        have hlen : (wtC (inW A q)).length = (inW A q).length * 2 := wtC_len _
        generalize hK : inW A q = K at *
        generalize hm : K.length = m at *
        have HKM : Hid (K.length = m) := hm
        have hsz := HB.out.size
        generalize wc % (8 : Int) = wc' at *
        clear hK hm
        go_wp2_with fail
        go_region_law ((first | (refine step_lies_wide _ (by rfl) _ _ _ (by rfl) y2.heap.size 36 i0 _ 2 16 Try.underlying25 hi hz0 hz1 hz2 rfl (by omega) (.slice av m cv) m (wtC K) (by rfl) ((HO.out.alloc _).drew) ⟨wr.heap.size, 0, none⟩ 1 1 [.int .i64 wc', .int .i64 wv] (by rfl) (by rfl) (World.news_of_block (cs := #[.int .i64 wc', .int .i64 wv]) (t := 36) (fr := (0, 0)) (heap_alloc_new wr _)) (by simp [Value.oneCell']) (by omega) (by unfold maxLen; omega) (by omega) (by simp; omega) (wr.heap.size + 1) (by simp) ?_; intro gg cap' w3 hown1 hgrow hat hlt2) | (go_simp; go_at_call 22; refine (HPK.out _).mono ?_; rintro e w' ⟨rfl, rfl⟩)))
        all_goals
          have HO3 : Hid (w3.ownsRow y2.heap.size 36 2 (.slice (some ⟨gg, 0, none⟩) (m + 1) cap') (K ++ [Wt.mk wc' wv]).length (wtC (K ++ [Wt.mk wc' wv]))) := by
            rw [Hid, HAP.out, List.length_append, HKM.out]; exact hown1
          have HB3 : Hid (Below y2.heap.size y2 w3) := (below_drawn (below_alloc HB.out _) 1).grown hgrow (by simp; omega) (fun b hb => (own_block HO.out b hb).1)
          clear hown1 hgrow hat hlt2
          go_wp2
          go_roundw
          case rel => exact ⟨q + 1, by omega, by omega, by go_num, by rw [HS2]; exact HO3.out, HB3.out⟩
          case measure => simp [intOf]; omega
      · have hend : q = 6 ∨ (q = nA ∧ q ≤ 6) := by omega
        have HE := HTKA.out q hend
        rw [HE, HMA.out] at HO
        have hx : (q : Int) < (nA : Int) ∧ ¬ (q : Int) < 6 ∨ ¬ (q : Int) < (nA : Int) := by omega
        rcases hx with ⟨hx1, hx2⟩ | hx1
        · go_wp2
          go_meet
          exact ⟨HO.out, HB.out⟩
        · go_wp2
          go_meet
          exact ⟨HO.out, HB.out⟩
  case rest =>
    obtain ⟨hown0, hbel0⟩ := hcut
    obtain ⟨aa, ca, rfl⟩ := own_slice hown0
    obtain ⟨y3, rfl⟩ : ∃ y3, y3 = wc := ⟨_, rfl⟩
    have HB2 : Hid (Below w.heap.size w y3) := below_then HB1.out hbel0
    have HOA : Hid (y3.ownsRow y2.heap.size 36 2 (.slice aa mA ca) mA (wtC (inW A 6))) := hown0
    clear hown0 hbel0 HSNA HTKA HDA HB1 HP
    go_upto_block 2 with fail
    go_cut [10] (fun s10 wx => wx.ownsRow y3.heap.size 36 2 s10 mB' (wtC (inW B 6)) ∧ Below y3.heap.size y3 wx)
    case first =>
      go_wp2_with fail
      go_loopw [10, 12] (fun ov iv wr => ∃ q : Nat, q ≤ nB ∧ q ≤ 6 ∧ iv = .int .i64 q ∧ wr.ownsRow y3.heap.size 36 2 ov (inW B q).length (wtC (inW B q)) ∧ Below y3.heap.size y3 wr) (fun _ iv _ => 6 - (intOf iv).toNat)
      case atStart => exact ⟨0, Nat.zero_le _, by omega, rfl, by simpa [inW, wtC] using World.ownsRow_nil _ _ _ _, Below.refl _ _⟩
      case round =>
        obtain ⟨q, hq, hq4, rfl, how, hb⟩ := hrel
        have HO : Hid (wr.ownsRow y3.heap.size 36 2 u10 (inW B q).length (wtC (inW B q))) := how
        have HB : Hid (Below y3.heap.size y3 wr) := hb
        have HBB : Hid (Below w.heap.size w wr) := below_then HB2.out hb
        clear how hb
        by_cases hlt : q < nB ∧ q < 6
        · obtain ⟨hlt, hlt4⟩ := hlt
          have d1 : decide ((q : Int) < (nB : Int)) = true := by simp; omega
          have d2 : decide ((q : Int) < 6) = true := by simp; omega
          have hx1 : (q : Int) < (nB : Int) := by omega
          obtain ⟨x, rfl, hxb, c0', c1'⟩ := HDB.out _ q HBB.out hlt
          rw [add_pos' _ _ (by decide)] at c1'
          have HS2 := HSNB.out q hlt
          have hl4 := HLNB.out q
          generalize B.getD q noWt = wt at *
          obtain ⟨wc, wv⟩ := wt
          simp only at c0' c1' HS2
          have HPK : Hid (∀ w, Calls Try.prog 22 #[.int .i64 wc, .int .i64 8] w fun e w' => e = .returned (.int .i64 (wc % 8)) ∧ w' = w) := HP8.out wc
          obtain ⟨av, cv, rfl⟩ := own_slice HO.out
          have HAP : Hid (wtC (inW B q ++ [⟨wc % 8, wv⟩]) = wtC (inW B q) ++ [.int .i64 (wc % 8), .int .i64 wv]) := by rw [Hid, wtC_app]; rfl
          have hlen : (wtC (inW B q)).length = (inW B q).length * 2 := wtC_len _
          generalize hK : inW B q = K at *
          generalize hm : K.length = m at *
          have HKM : Hid (K.length = m) := hm
          have hsz := HB.out.size
          generalize wc % (8 : Int) = wc' at *
          clear hK hm
          go_wp2_with fail
          go_region_law ((first | (refine step_lies_wide _ (by rfl) _ _ _ (by rfl) y3.heap.size 36 i0 _ 2 16 Try.underlying25 hi hz0 hz1 hz2 rfl (by omega) (.slice av m cv) m (wtC K) (by rfl) ((HO.out.alloc _).drew) ⟨wr.heap.size, 0, none⟩ 1 1 [.int .i64 wc', .int .i64 wv] (by rfl) (by rfl) (World.news_of_block (cs := #[.int .i64 wc', .int .i64 wv]) (t := 36) (fr := (0, 0)) (heap_alloc_new wr _)) (by simp [Value.oneCell']) (by omega) (by unfold maxLen; omega) (by omega) (by simp; omega) (wr.heap.size + 1) (by simp) ?_; intro gg cap' w3 hown1 hgrow hat hlt2) | (go_simp; go_at_call 22; refine (HPK.out _).mono ?_; rintro e w' ⟨rfl, rfl⟩)))
          all_goals
            have HO3 : Hid (w3.ownsRow y3.heap.size 36 2 (.slice (some ⟨gg, 0, none⟩) (m + 1) cap') (K ++ [Wt.mk wc' wv]).length (wtC (K ++ [Wt.mk wc' wv]))) := by
              rw [Hid, HAP.out, List.length_append, HKM.out]; exact hown1
            have HB3 : Hid (Below y3.heap.size y3 w3) := (below_drawn (below_alloc HB.out _) 1).grown hgrow (by simp; omega) (fun b hb => (own_block HO.out b hb).1)
            clear hown1 hgrow hat hlt2
            go_wp2
            go_roundw
            case rel => exact ⟨q + 1, by omega, by omega, by go_num, by rw [HS2]; exact HO3.out, HB3.out⟩
            case measure => simp [intOf]; omega
        · have hend : q = 6 ∨ (q = nB ∧ q ≤ 6) := by omega
          have HE := HTKB.out q hend
          rw [HE, HMB.out] at HO
          have hx : (q : Int) < (nB : Int) ∧ ¬ (q : Int) < 6 ∨ ¬ (q : Int) < (nB : Int) := by omega
          rcases hx with ⟨hx1, hx2⟩ | hx1
          · go_wp2
            go_meet
            exact ⟨HO.out, HB.out⟩
          · go_wp2
            go_meet
            exact ⟨HO.out, HB.out⟩
    case rest =>
      obtain ⟨hown0, hbel0⟩ := hcut
      obtain ⟨ab, cb, rfl⟩ := own_slice hown0
      obtain ⟨y4, rfl⟩ : ∃ y4, y4 = wc := ⟨_, rfl⟩
      have HB3 : Hid (Below w.heap.size w y4) := below_then HB2.out hbel0
      have HBA : Hid (y4.ownsRow y2.heap.size 36 2 (.slice aa mA ca) mA (wtC (inW A 6))) := own_keep HOA.out (Keep.of_below hbel0 []) (fun _ _ => by simp)
      have HOB : Hid (y4.ownsRow y3.heap.size 36 2 (.slice ab mB' cb) mB' (wtC (inW B 6))) := hown0
      have HWA : Hid (WL y4 (.slice aa mA ca) (inW A 6)) := WL.of_own (by rw [HMA.out]; exact HBA.out) (by have h := HMA.out; omega)
      have HWB0 : Hid (WL y4 (.slice ab mB' cb) (inW B 6)) := WL.of_own (by rw [HMB.out]; exact HOB.out) (by have h := HMB.out; omega)
      obtain ⟨R1, hR11, hR12⟩ := own_rows HBA.out
      obtain ⟨R2, hR21, hR22⟩ := own_rows HOB.out
      have HR1 : Hid (∀ w' : World, (∀ z ∈ R1 ++ R2, w'.heap[z.1]? = some z.2) → w'.ownsRow y2.heap.size 36 2 (.slice aa mA ca) mA (wtC (inW A 6))) := fun w' h => hR12 w' (fun z hz => h z (by simp [hz]))
      have HR2 : Hid (∀ w' : World, (∀ z ∈ R1 ++ R2, w'.heap[z.1]? = some z.2) → w'.ownsRow y3.heap.size 36 2 (.slice ab mB' cb) mB' (wtC (inW B 6))) := fun w' h => hR22 w' (fun z hz => h z (by simp [hz]))
      have HRR : Hid (∀ z ∈ R1 ++ R2, y4.heap[z.1]? = some z.2) := fun z hz => by
        rcases List.mem_append.1 hz with h | h
        · exact hR11 z h
        · exact hR21 z h
      clear hown0 hbel0 HSNB HTKB HDB HB2 HOA HBA HOB hR11 hR12 hR21 hR22 HP8 hi hz0 hz1 hz2
      generalize R1 ++ R2 = R at *
      go_wp2_with fail
      refine (HN.out _).mono ?_
      rintro e z1 ⟨p, F1, rfl, _, hm1, hb1⟩
      obtain ⟨M, rfl⟩ := hm1.ptr
      have HM1 : Hid (MemAt z1 y4.heap.size (.pointer (some ⟨M, 0, none⟩)) 8 s [] F1 ∧ Below y4.heap.size y4 z1) := ⟨hm1, hb1⟩
      clear hm1 hb1 HN
      have HWA1 : Hid (WL z1 (.slice aa mA ca) (inW A 6)) := HWA.out.later HM1.out.2
      go_wp2_with fail
      refine (HF1.out _ _ HWA1.out).mono ?_
      rintro e z2 ⟨X, u, rfl, hX, hrx, hox, hnx, hb2⟩
      have HX : Hid (z1.heap.size ≤ X ∧ BRow z2 X (orP s 1 A) (bkNew (orP s 1 A) true) u ∧ z2.ownsRow z1.heap.size 36 2 u (orP s 1 A).W.length (wtC (orP s 1 A).W) ∧ (∀ k, u.ownBlock = some k → k ≠ X) ∧ Below z1.heap.size z1 z2) := ⟨hX, hrx, hox, hnx, hb2⟩
      have HWB2 : Hid (WL z2 (.slice ab mB' cb) (inW B 6)) := (HWB0.out.later HM1.out.2).later hb2
      clear hX hrx hox hnx hb2 HF1 HWA HWA1 HWB0
      go_wp2_with fail
      refine (HF2.out _ _ HWB2.out).mono ?_
      rintro e z3 ⟨Y, v, rfl, hY, hry, hoy, hny, hb3⟩
      have HE0 : Hid (OW w z3 M X Y s (orP s 1 A) (orP s 2 B) u v 0 (bkNew (orP s 1 A) true) (bkNew (orP s 2 B) true) [] R) := ow_start HOQ.out rfl (fun x hx => (HWA0.out x hx).2.1) (fun x hx => (HWB9.out x hx).2.1) HB3.out HM1.out.1 HM1.out.2 HX.out.1 HX.out.2.1 HX.out.2.2.1 HX.out.2.2.2.1 HX.out.2.2.2.2 hY hry hoy hny hb3 HRR.out
      clear hY hry hoy hny hb3 HF2 HWB2 HX HM1 HRR HB3
      have HPL : Hid ((orP s 1 A).W.length ≤ 6 ∧ (orP s 2 B).W.length ≤ 6 ∧ (orP s 1 A).W = inW A 6 ∧ (orP s 2 B).W = inW B 6 ∧ (orP s 2 B).W.length = mB') := ⟨inW_len _ _, inW_len _ _, rfl, rfl, HMB.out⟩
      have HAM : Hid (Apt (orP s 1 A) (orP s 2 B) → (!(Sg.meet (orP s 1 A).sg (orP s 2 B).sg == Sg.nought)) = false) := apt_meet HOQ.out
      have HSG1 : Hid (∀ w', OW w w' M X Y s (orP s 1 A) (orP s 2 B) u v 0 (bkNew (orP s 1 A) true) (bkNew (orP s 2 B) true) [] R → Calls Try.prog 17 #[.pointer (some ⟨X, 0, none⟩)] w' fun e w'' => e = .returned (Sg.sv (orP s 1 A).sg) ∧ OW w w'' M X Y s (orP s 1 A) (orP s 2 B) u v 0 (bkNew (orP s 1 A) true) (bkNew (orP s 2 B) true) [] R) := fun w' h => ow_sig1 h
      have HSG2 : Hid (∀ w', OW w w' M X Y s (orP s 1 A) (orP s 2 B) u v 0 (bkNew (orP s 1 A) true) (bkNew (orP s 2 B) true) [] R → Calls Try.prog 17 #[.pointer (some ⟨Y, 0, none⟩)] w' fun e w'' => e = .returned (Sg.sv (orP s 2 B).sg) ∧ OW w w'' M X Y s (orP s 1 A) (orP s 2 B) u v 0 (bkNew (orP s 1 A) true) (bkNew (orP s 2 B) true) [] R) := fun w' h => ow_sig2 h
      generalize (!(Sg.meet (orP s 1 A).sg (orP s 2 B).sg == Sg.nought)) = sm at *
      generalize Sg.sv (orP s 1 A).sg = sv1 at *
      generalize Sg.sv (orP s 2 B).sg = sv2 at *
      have HPR : Hid (OPr nT 0 (orP s 1 A) (orP s 2 B) (bkNew (orP s 1 A) true) (bkNew (orP s 2 B) true)) := opr_start HE0.out.oi.bk HPL.out.1
      generalize bkNew (orP s 1 A) true = b0 at *
      generalize bkNew (orP s 2 B) true = d0 at *
      obtain ⟨P, hP⟩ : ∃ P, P = orP s 1 A := ⟨_, rfl⟩
      obtain ⟨Q, hQ⟩ : ∃ Q, Q = orP s 2 B := ⟨_, rfl⟩
      rw [← hP, ← hQ] at HPR HSG1 HSG2 HAM HPL HE0 HOQ
      have HPS : Hid (P.s = s ∧ Q.s = s) := by rw [hP, hQ]; exact ⟨rfl, rfl⟩
      clear hP hQ
      go_wp2_with fail
      refine (HSG1.out _ HE0.out).mono ?_
      rintro e z4 ⟨rfl, h4⟩
      have HE1 : Hid (OW w z4 M X Y s P Q u v 0 b0 d0 [] R) := h4
      clear h4 HE0
      go_wp2_with fail
      refine (HSG2.out _ HE1.out).mono ?_
      rintro e z5 ⟨rfl, h5⟩
      have HE2 : Hid (OW w z5 M X Y s P Q u v 0 b0 d0 [] R) := h5
      clear h5 HE1 HSG1 HSG2
      go_wp2_with fail
      refine (HMT.out _).mono ?_
      rintro e z6 ⟨rfl, h6⟩
      have HE3 : Hid (OW w z6 M X Y s P Q u v 0 b0 d0 [] R) := HE2.out.later h6
      clear h6 HE2 HMT
      go_upto_block 4 with fail
      clear w1 w1b w1c
      go_cut [20] (fun _ wx => ∃ (b d : Bk) (L : List Ac), OW w wx M X Y s P Q u v (nT + 200) b d L R ∧ b.nx = 0 ∧ d.nx = 0)
      case first =>
        go_wp2_with fail
        have b3 : wrap64 ((nT : Int) + 200) = (nT : Int) + 200 := by unfold wrap64; omega
        obtain ⟨sl1, HS1⟩ : ∃ x, Hid (x = slotV 1 (s : Int)) := ⟨_, rfl⟩
        obtain ⟨sl2, HS2⟩ : ∃ x, Hid (x = slotV 2 (s : Int)) := ⟨_, rfl⟩
        have HBD : Hid ((0 ≤ sl1 ∧ sl1 < (s : Int)) ∧ 0 ≤ sl2 ∧ sl2 < (s : Int)) := by rw [Hid, HS1.out, HS2.out]; have h := sizeOk_iff.mpr (show 1 ≤ (s : Int) ∧ (s : Int) ≤ 16 by have := HBG.out; omega); exact ⟨slotV_bd _ _ h, slotV_bd _ _ h⟩
        have t1 : (1 : Int).tmod (s : Int) = sl1 := by rw [HS1.out]; unfold slotV; rw [if_pos (sizeOk_iff.mpr (by have := HBG.out; omega))]; exact Int.tmod_eq_emod_of_nonneg (by decide)
        have t2 : (2 : Int).tmod (s : Int) = sl2 := by rw [HS2.out]; unfold slotV; rw [if_pos (sizeOk_iff.mpr (by have := HBG.out; omega))]; exact Int.tmod_eq_emod_of_nonneg (by decide)
        have hsz : (s : Int) ≠ 0 := by have := HBG.out; omega
        have e1 : wrap64 sl1 = sl1 := by have := HBD.out; have := HBG.out; unfold wrap64; omega
        have e2 : wrap64 sl2 = sl2 := by have := HBD.out; have := HBG.out; unfold wrap64; omega
        have e3 : IntKind.i64.wrap sl1 = sl1 := by have := HBD.out; have := HBG.out; rw [IntKind.wrap_i64]; omega
        have e4 : IntKind.i64.wrap sl2 = sl2 := by have := HBD.out; have := HBG.out; rw [IntKind.wrap_i64]; omega
        go_loopg [20] (nT + 200) (fun g iv wr => ∃ (i : Nat) (b d : Bk) (L : List Ac), i ≤ nT + 200 ∧ g = nT + 200 - i ∧ iv = .int .i64 i ∧ OW w wr M X Y s P Q u v i b d L R ∧ OPr nT i P Q b d)
        case atStart => exact ⟨0, b0, d0, [], by omega, by omega, rfl, HE3.out, HPR.out⟩
        case round =>
          obtain ⟨i, b, d, L, hi', rfl, rfl, how, hpr⟩ := hrel
          have HEW : Hid (OW w wr M X Y s P Q u v i b d L R ∧ OPr nT i P Q b d) := ⟨how, hpr⟩
          clear how hpr HE3 HPR
          by_cases hlt : i < nT + 200
          · have hlt' : (i : Int) < (nT : Int) + 200 := by omega
            obtain ⟨tb, HTB⟩ : ∃ tb : Bool, Hid (tb = if i < nT then T.getD i false else decide (i % 2 = 0)) := ⟨_, rfl⟩
            go_upto_region 26 with fail
            go_cut [167] (fun c wx => c = .bool tb ∧ wr = wx)
            case first =>
              clear t1 t2 e1 e2 e3 e4
              by_cases h1 : i < nT
              · obtain ⟨x, rfl, hxb, hc⟩ := HTD.out wr i HEW.out.1.bel h1
                have HTT : Hid (tb = T.getD i false) := by rw [Hid, HTB.out, if_pos h1]
                have h1' : (i : Int) < (nT : Int) := by omega
                have h1'' : ¬ (nT : Int) ≤ (i : Int) := by omega
                generalize T.getD i false = tt at *
                cases tt
                · go_wp2
                  go_meet
                  exact ⟨by rw [HTT.out], rfl⟩
                · go_wp2
                  go_meet
                  exact ⟨by rw [HTT.out], rfl⟩
              · have h1' : ¬ (i : Int) < (nT : Int) := by omega
                have h1'' : (nT : Int) ≤ (i : Int) := by omega
                by_cases h2 : i % 2 = 0
                · have HTT : Hid (tb = true) := by rw [Hid, HTB.out, if_neg h1, h2]; rfl
                  have h2' : (i : Int).tmod 2 = 0 := by rw [Int.tmod_eq_emod_of_nonneg (by omega)]; omega
                  clear h2
                  go_wp2
                  go_meet
                  exact ⟨by rw [HTT.out], rfl⟩
                · have HTT : Hid (tb = false) := by rw [Hid, HTB.out, if_neg h1]; exact decide_eq_false h2
                  have h2' : (i : Int).tmod 2 = 1 := by rw [Int.tmod_eq_emod_of_nonneg (by omega)]; omega
                  clear h2
                  go_wp2
                  go_meet
                  exact ⟨by rw [HTT.out], rfl⟩
            case rest =>
              obtain ⟨rfl, rfl⟩ := hcut
              go_upto_if 167 with fail
              go_cut [167] (fun _ wx => ∃ (b' d' : Bk) (L' : List Ac), OW w wx M X Y s P Q u v (i + 1) b' d' L' R ∧ OPr nT (i + 1) P Q b' d')
              case first =>
                cases htb : tb
                · have HEV : Hid (nT ≤ i → i % 2 = 1) := fun h => by
                    have h2 := HTB.out
                    rw [htb, if_neg (by omega)] at h2
                    have h3 := of_decide_eq_false h2.symm
                    omega
                  go_wp2_with fail
                  refine (ow_new HEW.out.1 (by omega)).mono ?_
                  rintro e z7 ⟨⟨kk, yy, rfl⟩, d', L', h7, h8⟩
                  have HM7 : Hid (OW w z7 M X Y s P Q u v (i + 1) b d' L' R ∧ OPr nT (i + 1) P Q b d') := ⟨h7, opr_new HEW.out.2 h7.oi.bk h7.oi.dk HPL.out.1 HPL.out.2.1 HEV.out h8⟩
                  clear h7 h8
                  go_wp2
                  go_meet
                  exact ⟨b, d', L', HM7.out⟩
                · have HEV : Hid (nT ≤ i → i % 2 = 0) := fun h => by
                    have h2 := HTB.out
                    rw [htb, if_neg (by omega)] at h2
                    exact of_decide_eq_true h2.symm
                  go_wp2_with fail
                  refine (ow_old HEW.out.1 (by omega)).mono ?_
                  rintro e z7 ⟨⟨kk, yy, rfl⟩, b', L', h7, h8, h9⟩
                  have HM7 : Hid (OW w z7 M X Y s P Q u v (i + 1) b' d L' R ∧ OPr nT (i + 1) P Q b' d) := ⟨h7, opr_old HEW.out.2 h7.oi.bk h7.oi.dk HPL.out.1 HPL.out.2.1 HEV.out h8 h9⟩
                  clear h7 h8 h9
                  go_wp2
                  go_meet
                  exact ⟨b', d, L', HM7.out⟩
              case rest =>
                obtain ⟨b', d', L', h7, h8⟩ := hcut
                obtain ⟨z7, rfl⟩ : ∃ z7, z7 = wc := ⟨_, rfl⟩
                have HE7 : Hid (OW w z7 M X Y s P Q u v (i + 1) b' d' L' R ∧ OPr nT (i + 1) P Q b' d') := ⟨h7, h8⟩
                have HA1 : Hid (wordOf L' ⟨2, sl2, 0⟩ = 5 → wordOf L' ⟨2, sl1, 0⟩ = 3) := fun h => by
                  have h1 := ow_asks1 h7
                  unfold hdB at h1
                  rw [HPS.out.1, HPS.out.2, ← HS1.out, ← HS2.out] at h1
                  exact h1 h
                have HA2 : Hid (wordOf L' ⟨2, sl1, 0⟩ ≠ 3 → d'.wr = 0 ∨ Apt P Q) := fun h => by
                  have h1 := ow_asks2 h7
                  unfold hdB at h1
                  rw [HPS.out.1, ← HS1.out] at h1
                  exact h1 h
                have HK1 : Hid (∀ w', OW w w' M X Y s P Q u v (i + 1) b' d' L' R → Calls Try.prog 23 #[.pointer (some ⟨M, 0, none⟩), .agg #[.int .i64 2, .int .i64 sl1, .int .i64 0]] w' fun e w'' => e = .returned (.tuple #[.int .i64 (wordOf L' ⟨2, sl1, 0⟩), .int .i64 0]) ∧ OW w w'' M X Y s P Q u v (i + 1) b' d' L' R) := fun w' h => ow_peek h ⟨2, sl1, 0⟩ (by have h2 := HBD.out; simp [isAd, h2.1.1, h2.1.2])
                have HK2 : Hid (∀ w', OW w w' M X Y s P Q u v (i + 1) b' d' L' R → Calls Try.prog 23 #[.pointer (some ⟨M, 0, none⟩), .agg #[.int .i64 2, .int .i64 sl2, .int .i64 0]] w' fun e w'' => e = .returned (.tuple #[.int .i64 (wordOf L' ⟨2, sl2, 0⟩), .int .i64 0]) ∧ OW w w'' M X Y s P Q u v (i + 1) b' d' L' R) := fun w' h => ow_peek h ⟨2, sl2, 0⟩ (by have h2 := HBD.out; simp [isAd, h2.2.1, h2.2.2])
                have HK3 : Hid (∀ w', OW w w' M X Y s P Q u v (i + 1) b' d' L' R → Calls Try.prog 18 #[.pointer (some ⟨Y, 0, none⟩)] w' fun e w'' => e = .returned (.int .i64 ((Q.W.length : Int) - (d'.wr : Int))) ∧ OW w w'' M X Y s P Q u v (i + 1) b' d' L' R) := fun w' h => ow_left h
                have HNL : Hid (d'.wr = 0 → (Q.W.length : Int) - (d'.wr : Int) = (mB' : Int)) := fun h => by rw [h, HPL.out.2.2.2.2]; omega
                generalize wordOf L' ⟨2, sl1, 0⟩ = p at *
                generalize wordOf L' ⟨2, sl2, 0⟩ = q at *
                generalize (Q.W.length : Int) - (d'.wr : Int) = nl at *
                have e7 : wrap64 ((i : Int) + 1) = (i : Int) + 1 := by unfold wrap64; omega
                clear h7 h8 HEW HTB htb
                go_wp2_with fail
                refine (HK1.out _ HE7.out.1).mono ?_
                rintro e z8 ⟨rfl, h8⟩
                have HE8 : Hid (OW w z8 M X Y s P Q u v (i + 1) b' d' L' R) := h8
                clear h8 HK1
                go_wp2_with fail
                refine (HK2.out _ HE8.out).mono ?_
                rintro e z9 ⟨rfl, h9⟩
                have HE9 : Hid (OW w z9 M X Y s P Q u v (i + 1) b' d' L' R) := h9
                clear h9 HK2 HE8 t1 t2 e1 e2 e3 e4
                go_wp2_with fail
                refine (HK3.out _ HE9.out).mono ?_
                rintro e z10 ⟨rfl, h10⟩
                have HE10 : Hid (OW w z10 M X Y s P Q u v (i + 1) b' d' L' R) := h10
                clear h10 HK3 HE9
                by_cases q5 : q = 5
                · have hp3 := HA1.out q5
                  subst q5 hp3
                  cases hsm : sm
                  all_goals
                    subst hsm
                    go_wp2
                    go_roundg (nT + 200 - (i + 1))
                    case measure => omega
                    case rel => exact ⟨i + 1, b', d', L', by omega, rfl, by go_num, HE10.out, HE7.out.2⟩
                · have q5b : (q == 5) = false := by simp [q5]
                  cases hsm : sm
                  · subst hsm
                    go_wp2
                    go_roundg (nT + 200 - (i + 1))
                    case measure => omega
                    case rel => exact ⟨i + 1, b', d', L', by omega, rfl, by go_num, HE10.out, HE7.out.2⟩
                  · by_cases p3 : p = 3
                    · subst p3
                      subst hsm
                      go_wp2
                      go_roundg (nT + 200 - (i + 1))
                      case measure => omega
                      case rel => exact ⟨i + 1, b', d', L', by omega, rfl, by go_num, HE10.out, HE7.out.2⟩
                    · have hnl : nl = (mB' : Int) := by
                        rcases HA2.out p3 with h | h
                        · exact HNL.out h
                        · have := HAM.out h
                          rw [hsm] at this
                          cases this
                      have p3b : (p == 3) = false := by simp [p3]
                      subst hnl
                      subst hsm
                      go_wp2
                      go_roundg (nT + 200 - (i + 1))
                      case measure => omega
                      case rel => exact ⟨i + 1, b', d', L', by omega, rfl, by go_num, HE10.out, HE7.out.2⟩
          · obtain rfl : i = nT + 200 := by omega
            have hnn : ¬ ((nT + 200 : Nat) : Int) < (nT : Int) + 200 := by omega
            go_wp2
            go_meet
            exact ⟨b, d, L, HEW.out.1, opr_end HEW.out.2 HEW.out.1.oi.dk⟩
      case rest =>
        obtain ⟨b, d, L, how0, hb0, hd0⟩ := hcut
        have HE4 : Hid (OW w wc M X Y s P Q u v (nT + 200) b d L R) := how0
        have HCV : Hid (∀ c : Int, wordOf L ⟨4, c, 0⟩ = (lastW (inW B 6) c).getD ((lastW (inW A 6) c).getD 0)) := fun c => by
          have h := ow_cell how0 hb0 hd0 c
          rw [HPL.out.2.2.1, HPL.out.2.2.2.1] at h
          exact h
        clear how0 hb0 hd0 HE3 HPR HAM HTD HPL HOQ HBG HPS
        go_wp2
        go_loopw [26] (fun cv wr => ∃ c : Nat, c ≤ 8 ∧ cv = .int .i64 c ∧ OW w wr M X Y s P Q u v (nT + 200) b d L R) (fun cv _ => 8 - (intOf cv).toNat)
        case atStart => exact ⟨0, by omega, rfl, HE4.out⟩
        case round =>
          obtain ⟨c, hc, rfl, how⟩ := hrel
          obtain ⟨x6, rfl⟩ : ∃ x6, x6 = wr := ⟨_, rfl⟩
          have HEA : Hid (OW w x6 M X Y s P Q u v (nT + 200) b d L R) := how
          clear how HE4
          by_cases hlt : c < 8
          · have hlt' : (c : Int) < 8 := by omega
            have HCA : Hid (∀ i, i < mA → ∃ g, aa = some ⟨g, 0, none⟩ ∧ x6.cell? ⟨g, i * 2, none⟩ = some (.int .i64 ((inW A 6).getD i noWt).c) ∧ x6.cell? ⟨g, i * 2 + 1, none⟩ = some (.int .i64 ((inW A 6).getD i noWt).v)) := fun i hi => by
              have ho := HR1.out x6 HEA.out.row
              obtain ⟨g, cap2, hfm, -⟩ := ho.form (by omega)
              simp at hfm
              obtain ⟨rfl, rfl⟩ := hfm
              exact ⟨g, rfl, own_wr (W := inW A 6) (by rw [HMA.out]; exact ho) i (by rw [HMA.out]; exact hi)⟩
            have HCB : Hid (∀ i, i < mB' → ∃ g, ab = some ⟨g, 0, none⟩ ∧ x6.cell? ⟨g, i * 2, none⟩ = some (.int .i64 ((inW B 6).getD i noWt).c) ∧ x6.cell? ⟨g, i * 2 + 1, none⟩ = some (.int .i64 ((inW B 6).getD i noWt).v)) := fun i hi => by
              have ho := HR2.out x6 HEA.out.row
              obtain ⟨g, cap2, hfm, -⟩ := ho.form (by omega)
              simp at hfm
              obtain ⟨rfl, rfl⟩ := hfm
              exact ⟨g, rfl, own_wr (W := inW B 6) (by rw [HMB.out]; exact ho) i (by rw [HMB.out]; exact hi)⟩
            have g3 : wrap64 ((c : Int) + 1) = (c : Int) + 1 := by unfold wrap64; omega
            go_wp2
            go_loopw [27, 28] (fun vv kv wr => ∃ (q : Nat) (z : Int), q ≤ mA ∧ kv = .int .i64 q ∧ vv = .int .i64 z ∧ z = (lastW ((inW A 6).take q) (c : Int)).getD 0 ∧ x6 = wr) (fun _ kv _ => mA - (intOf kv).toNat)
            case atStart => exact ⟨0, 0, Nat.zero_le _, rfl, rfl, by simp [lastW], rfl⟩
            case round =>
              obtain ⟨q, z, hq, rfl, rfl, hz, rfl⟩ := hrel
              have HZ : Hid (z = (lastW ((inW A 6).take q) (c : Int)).getD 0) := hz
              clear hz
              by_cases hqm : q < mA
              · have hqm' : (q : Int) < (mA : Int) := by omega
                have g4 : wrap64 ((q : Int) + 1) = (q : Int) + 1 := by unfold wrap64; omega
                obtain ⟨g, rfl, k0, k1⟩ := HCA.out q hqm
                have HLT : Hid (lastW ((inW A 6).take (q + 1)) (c : Int) = if ((inW A 6).getD q noWt).c = (c : Int) then some ((inW A 6).getD q noWt).v else lastW ((inW A 6).take q) (c : Int)) := lastW_take (by rw [HMA.out]; exact hqm) _
                generalize (inW A 6).getD q noWt = xk at *
                obtain ⟨kc, kv⟩ := xk
                simp only at k0 k1 HLT
                by_cases hce : kc = (c : Int)
                · subst hce
                  go_wp2
                  go_roundw
                  case rel => exact ⟨q + 1, kv, by omega, by go_num, rfl, by rw [HLT.out]; simp, by first | trivial | rfl⟩
                  case measure => simp [intOf]; omega
                · have hcb : (kc == (c : Int)) = false := by simp [hce]
                  go_wp2
                  go_roundw
                  case rel => exact ⟨q + 1, z, by omega, by go_num, rfl, by rw [HLT.out, if_neg hce]; exact HZ.out, by first | trivial | rfl⟩
                  case measure => simp [intOf]; omega
              · have hqe : q = mA := by omega
                have HZA : Hid (z = (lastW (inW A 6) (c : Int)).getD 0) := by have h := HZ.out; rw [hqe, ← HMA.out, List.take_length] at h; exact h
                have hqm' : ¬ (q : Int) < (mA : Int) := by omega
                clear hqe HZ HCA
                go_wp2
                go_loopw [27, 29] (fun vv kv wr => ∃ (q : Nat) (z2 : Int), q ≤ mB' ∧ kv = .int .i64 q ∧ vv = .int .i64 z2 ∧ z2 = (lastW ((inW B 6).take q) (c : Int)).getD z ∧ x6 = wr) (fun _ kv _ => mB' - (intOf kv).toNat)
                case atStart => exact ⟨0, z, Nat.zero_le _, rfl, rfl, by simp [lastW], rfl⟩
                case round =>
                  obtain ⟨r, z2, hr, rfl, rfl, hz2, rfl⟩ := hrel
                  have HZ2 : Hid (z2 = (lastW ((inW B 6).take r) (c : Int)).getD z) := hz2
                  clear hz2
                  by_cases hrm : r < mB'
                  · have hrm' : (r : Int) < (mB' : Int) := by omega
                    have g4 : wrap64 ((r : Int) + 1) = (r : Int) + 1 := by unfold wrap64; omega
                    obtain ⟨g, rfl, k0, k1⟩ := HCB.out r hrm
                    have HLT : Hid (lastW ((inW B 6).take (r + 1)) (c : Int) = if ((inW B 6).getD r noWt).c = (c : Int) then some ((inW B 6).getD r noWt).v else lastW ((inW B 6).take r) (c : Int)) := lastW_take (by rw [HMB.out]; exact hrm) _
                    generalize (inW B 6).getD r noWt = xk at *
                    obtain ⟨kc, kv⟩ := xk
                    simp only at k0 k1 HLT
                    by_cases hce : kc = (c : Int)
                    · subst hce
                      go_wp2
                      go_roundw
                      case rel => exact ⟨r + 1, kv, by omega, by go_num, rfl, by rw [HLT.out]; simp, by first | trivial | rfl⟩
                      case measure => simp [intOf]; omega
                    · have hcb : (kc == (c : Int)) = false := by simp [hce]
                      go_wp2
                      go_roundw
                      case rel => exact ⟨r + 1, z2, by omega, by go_num, rfl, by rw [HLT.out, if_neg hce]; exact HZ2.out, by first | trivial | rfl⟩
                      case measure => simp [intOf]; omega
                  · have hre : r = mB' := by omega
                    have hzz : wordOf L ⟨4, (c : Int), 0⟩ = z2 := by
                      have h := HZ2.out
                      rw [hre, ← HMB.out, List.take_length, HZA.out] at h
                      rw [HCV.out, h]
                    have HPK : Hid (Calls Try.prog 23 #[.pointer (some ⟨M, 0, none⟩), .agg #[.int .i64 4, .int .i64 (c : Int), .int .i64 0]] x6 fun e w' => e = .returned (.tuple #[.int .i64 z2, .int .i64 0]) ∧ OW w w' M X Y s P Q u v (nT + 200) b d L R) := by
                      have hq := ow_peek HEA.out ⟨4, (c : Int), 0⟩ (by simp [isAd]; omega)
                      rw [hzz] at hq
                      exact hq
                    have hrm' : ¬ (r : Int) < (mB' : Int) := by omega
                    clear hre hzz HZ2 HZA HCB
                    go_wp2_with fail
                    refine HPK.out.mono ?_
                    rintro e z10 ⟨rfl, h10⟩
                    have HE10 : Hid (OW w z10 M X Y s P Q u v (nT + 200) b d L R) := h10
                    clear h10 HPK
                    go_wp2
                    go_roundw
                    case rel => exact ⟨c + 1, by omega, by go_num, HE10.out⟩
                    case measure => simp [intOf]; omega
          · have hce : c = 8 := by omega
            subst hce
            go_wp2
            go_ret
            exact ⟨rfl, HEA.out.bel⟩
end Go.Proofs.Ytbmmicfdnfpcaaa
