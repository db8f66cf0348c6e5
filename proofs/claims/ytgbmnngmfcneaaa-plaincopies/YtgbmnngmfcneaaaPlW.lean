/- Steps done by both: plays; PlainPlays walked. -/
import Derived.Test.YtgbmnngmfcneaaaPlQ
namespace Go.Proofs.Ytgbmnngmfcneaaa.Pl
open Go.ChangeShapes Go.WideShapes Go.ChangeAt Go.RowKit
attribute [local go_sem ↓] Go.wp_at_zero Go.wp_at_succ

theorem fold_snoc {α β : Type} (f : β → α → β) (d : α) (S : List α) (b : β) {j : Nat} (h : j < S.length) : (S.take (j + 1)).foldl f b = f ((S.take j).foldl f b) (S.getD j d) := by
  rw [List.take_add_one, List.foldl_append]
  simp [h]
theorem pw_wrap {n i : Nat} (hi : i < n) (hn : n ≤ 17592186044416) : wrap64 ((i : Int) + 1) = ((i + 1 : Nat) : Int) := by
  unfold wrap64
  omega
set_option maxRecDepth 100000 in
theorem plays_any {w0 w : World} {B X : Nat} {F0 : List Nat} {Y : Nat} {G0 Z : List Nat} {raw : List Int} {cs : List Co} {v : Value} {S : List Stp} (h0 : Sl w0 v S) (hb : Below w0.heap.size w0 w) (hB : w0.heap.size ≤ B) (h : Du w B X F0 Y G0 Z raw cs) : Calls Try.prog 9 #[.pointer (some ⟨X, 0, none⟩), .pointer (some ⟨Y, 0, none⟩), v] w (After w (F0 ++ G0) B X Y Z (S.foldl stR raw) (S.foldl stC cs)) := by
  have HS : Hid (∀ w', Below B w w' → Sl w' v S) := fun w' hb' => h0.later (hb.trans (hb'.mono hB)) (Nat.le_refl _)
  have HBL : Hid (∀ x i n cap, v = .slice (some x) n cap → i < S.length → ∀ u, w0.cell? ⟨(x.add (i * 6)).block, (x.add (i * 6)).off + 5, none⟩ = some u → (S.getD i st0).a.length ≠ 0 → ∀ y m cp, u = .slice (some y) m cp → y.block < B) := fun x i n cap hv hi u hu hne y m cp e => by
    obtain ⟨a', cap', hv', _, hl⟩ := h0
    rw [hv] at hv'
    injection hv' with e1 e2 e3
    subst e1
    obtain ⟨x', hx', _, hc⟩ := hl.resolve_left (by omega)
    injection hx' with hx'
    subst hx'
    obtain ⟨u', _, _, _, _, _, c5, hn, _⟩ := hc i hi
    rw [hu] at c5
    injection c5 with c5
    subst c5
    obtain ⟨a2, cap2, hv2, _, _, _, _, hh⟩ := hn
    rw [e] at hv2
    injection hv2 with f1 f2 f3
    obtain ⟨y', hy', hlt, _⟩ := hh.resolve_left hne
    rw [← f1] at hy'
    injection hy' with hy'
    rw [hy']
    omega
  have HB0 : Hid (Below w0.heap.size w0 w ∧ w0.heap.size ≤ B) := ⟨hb, hB⟩
  have HD0 : Hid (Du w B X F0 Y G0 Z raw cs) := h
  have hsl := h0
  obtain ⟨la, lc, rfl, hlen, hl0⟩ := h0
  have HLN : Hid (S.length ≤ 17592186044416) := hlen
  have HL0 : Hid (S.length = 0 ∨ ∃ x, la = some x ∧ x.block < w0.heap.size) := by
    rcases hl0 with h | ⟨x, hx, hb, _⟩
    · exact Or.inl h
    · exact Or.inr ⟨x, hx, hb⟩
  have HSL : Hid (Sl w0 (.slice la S.length lc) S) := hsl
  clear hlen hb hB h hsl hl0
  go_enter Try.func9, Try.ntmps9
  go_wp2_with fail
  go_loopw [7] (fun iv wr => ∃ (j : Nat) (F G : List Nat), j ≤ S.length ∧ iv = .int .i64 (j : Int) ∧ Hid (Du wr B X F Y G Z ((S.take j).foldl stR raw) ((S.take j).foldl stC cs)) ∧ Hid (Next (F0 ++ G0) (F ++ G) w wr) ∧ Below B w wr) (fun iv _ => S.length - (intOf iv).toNat)
  case atStart => exact ⟨0, F0, G0, Nat.zero_le _, rfl, by simpa [Hid] using HD0.out, Next.refl _ _, Below.refl _ _⟩
  case round =>
    obtain ⟨j, F, G, hj, rfl, HD, HNX, hbel⟩ := hrel
    have HB : Hid (Below B w wr) := hbel
    clear hbel
    by_cases hlt : j < S.length
    · have d1 : decide ((j : Int) < (S.length : Int)) = true := by simpa using hlt
      have HIW : Hid (wrap64 ((j : Int) + 1) = ((j + 1 : Nat) : Int)) := pw_wrap hlt HLN.out
      obtain ⟨a', cap', hv', _, hl⟩ := HS.out wr HB.out
      injection hv' with e1 e2 e3
      subst e1
      obtain ⟨x, rfl, hxb, hc⟩ := hl.resolve_left (by omega)
      obtain ⟨u, q0, q1, q2, q3, q4, q5, hn, hsx⟩ := hc j hlt
      have HU : Hid ((S.getD j st0).a.length ≠ 0 → ∀ y m cp, u = .slice (some y) m cp → y.block < B) := fun hne => by
        obtain ⟨a2, cap2, hv2, _, hl2⟩ := HSL.out
        injection hv2 with f1 f2 f3
        subst f1
        obtain ⟨x2, hx2, hxb2, hc2⟩ := hl2.resolve_left (by omega)
        injection hx2 with hx2
        subst hx2
        obtain ⟨u', _, _, _, _, _, c5, _, _⟩ := hc2 j hlt
        have hbw : Below w0.heap.size w0 wr := HB0.out.1.trans (HB.out.mono HB0.out.2)
        have := cell_later hbw (a := ⟨(x.add (j * 6)).block, (x.add (j * 6)).off + 5, none⟩) (by rw [add_block]; exact hxb2) c5
        rw [q5] at this
        injection this with this
        subst this
        exact HBL.out x j S.length lc rfl hlt u c5 hne
      have H1 : Hid (Calls Try.prog 23 #[.pointer (some ⟨X, 0, none⟩), .pointer (some ⟨Y, 0, none⟩), .agg #[.int .i64 (S.getD j st0).k, .int .i64 (S.getD j st0).p, .int .i64 (S.getD j st0).v, .int .i64 (S.getD j st0).r, .int .i64 (S.getD j st0).c, u]] wr (After wr (F ++ G) B X Y Z (stR ((S.take j).foldl stR raw) (S.getD j st0)) (stC ((S.take j).foldl stC cs) (S.getD j st0)))) := one_any HD.out hn HU.out hsx
      have HFR := fold_snoc stR st0 S raw hlt
      have HFC := fold_snoc stC st0 S cs hlt
      have HF2 : Hid ((S.take (j + 1)).foldl stR raw = stR ((S.take j).foldl stR raw) (S.getD j st0) ∧ (S.take (j + 1)).foldl stC cs = stC ((S.take j).foldl stC cs) (S.getD j st0)) := ⟨HFR, HFC⟩
      obtain ⟨ua, uc, rfl⟩ := nl_slice hn
      generalize S.getD j st0 = s at *
      clear HFR HFC hl hc hn hsx HU HD hxb e2 e3
      go_wp2_with fail
      refine H1.out.mono ?_
      rintro e w1 ⟨rfl, F', G', hdu, hb1, hnx1⟩
      have HFN : Hid (Du w1 B X F' Y G' Z ((S.take (j + 1)).foldl stR raw) ((S.take (j + 1)).foldl stC cs) ∧ Next (F0 ++ G0) (F' ++ G') w w1 ∧ Below B w w1) := by
        rw [HF2.out.1, HF2.out.2]
        exact ⟨hdu, HNX.out.trans hnx1, HB.out.trans hb1⟩
      clear hdu hb1 hnx1 H1 q0 q1 q2 q3 q4 q5
      go_wp2_with fail
      go_roundw
      case rel => exact ⟨j + 1, F', G', hlt, by first | rw [HIW.out] | go_num, HFN.out.1, HFN.out.2.1, HFN.out.2.2⟩
      case measure =>
        try rw [HIW.out]
        exact sh_less hlt
    · obtain rfl : j = S.length := Nat.le_antisymm hj (Nat.not_lt.1 hlt)
      have d1 : decide ((S.length : Int) < (S.length : Int)) = false := by simp
      have HDE : Hid (Du wr B X F Y G Z (S.foldl stR raw) (S.foldl stC cs)) := by
        have := HD.out
        rwa [List.take_length] at this
      have HAL : Hid (Calls Try.prog 12 #[.pointer (some ⟨X, 0, none⟩), .pointer (some ⟨Y, 0, none⟩)] wr fun e w' => e = .returned (.bool true) ∧ Below wr.heap.size wr w') := alike_any HDE.out
      have HFN : Hid (∀ w', Below wr.heap.size wr w' → After w (F0 ++ G0) B X Y Z (S.foldl stR raw) (S.foldl stC cs) (.returned (.bool true)) w') := fun w' hb => ⟨rfl, F, G, HDE.out.later hb, HB.out.trans (hb.mono HDE.out.wB), HNX.out.trans (Next.of_below hb _)⟩
      clear HD HDE
      go_wp2_with fail
      refine HAL.out.mono ?_
      rintro e w1 ⟨rfl, hb1⟩
      have HFF : Hid (After w (F0 ++ G0) B X Y Z (S.foldl stR raw) (S.foldl stC cs) (.returned (.bool true)) w1) := HFN.out w1 hb1
      clear hb1 HFN HAL
      go_wp2_with fail
      go_ret
      exact HFF.out
set_option maxRecDepth 100000 in
theorem plays_walk {w : World} {vc vl : Value} {c : Pc.Cf} {S : List Stp} (h : Pc.CfV w vc c) (hl : Sl w vl S) : Calls Try.prog 3 #[vc, vl] w fun e w' => e = .returned (.bool true) ∧ Below w.heap.size w w' := by
  obtain ⟨q, hq⟩ : ∃ q, Pc.okC c = q := ⟨_, rfl⟩
  obtain ⟨la, lc, hle, _⟩ := id hl
  cases q with
  | false =>
    have HB : Hid (∀ w' : World, Below w.heap.size w w' → Calls Try.prog 8 #[vc] w' fun e w'' => e = .returned (.tuple #[.pointer none, .pointer none, .bool true]) ∧ Below w'.heap.size w' w'') := fun w' hb => both_no (h.later hb (Nat.le_refl _)) hq
    obtain ⟨vr, rfl, hR⟩ := h
    obtain ⟨ar, cap, rfl, -⟩ := hR
    obtain ⟨rw0, b, d, s, mu, t, R⟩ := c
    unfold Pc.cfA at *
    dsimp only at *
    clear hq hl
    subst hle
    go_enter Try.func3, Try.ntmps3
    go_wp2_with fail
    refine (HB.out _ (below_a1 _ _)).mono ?_
    rintro e w1 ⟨rfl, hb⟩
    have HF : Hid (Below w.heap.size w w1) := below_then (below_a1 _ _) hb
    clear hb HB
    go_wp2_with fail
    go_ret
    exact ⟨rfl, HF.out⟩
  | true =>
    have HB : Hid (∀ w' : World, Below w.heap.size w w' → Calls Try.prog 8 #[vc] w' fun e w'' => ∃ X F Y G Z, e = .returned (.tuple #[.pointer (some ⟨X, 0, none⟩), .pointer (some ⟨Y, 0, none⟩), .bool true]) ∧ Du w'' w'.heap.size X F Y G Z (newRaw c) (newCs c) ∧ Below w'.heap.size w' w'') := fun w' hb => both_yes (h.later hb (Nat.le_refl _)) hq
    have HL : Hid (Sl w vl S) := hl
    generalize newRaw c = raw at *
    generalize newCs c = cs at *
    obtain ⟨vr, rfl, hR⟩ := h
    obtain ⟨ar, cap, rfl, -⟩ := hR
    obtain ⟨rw0, b, d, s, mu, t, R⟩ := c
    unfold Pc.cfA at *
    dsimp only at *
    clear hq hl
    subst hle
    go_enter Try.func3, Try.ntmps3
    go_wp2_with fail
    refine (HB.out _ (below_a1 _ _)).mono ?_
    rintro e w1 ⟨X, F, Y, G, Z, rfl, hdu, hb⟩
    have HB1 : Hid (Below w.heap.size w w1) := below_then (below_a1 _ _) hb
    have HP := plays_any HL.out HB1.out (by simp) hdu
    obtain ⟨B, hB⟩ : ∃ B, B = (w.alloc (.cells #[.int .i64 rw0, .int .i64 b, .int .i64 d, .int .i64 s, .bool mu, .int .i64 t, .slice ar R.length cap] 24)).heap.size := ⟨_, rfl⟩
    rw [← hB] at HP
    have HPP : Hid (Calls Try.prog 9 #[.pointer (some ⟨X, 0, none⟩), .pointer (some ⟨Y, 0, none⟩), .slice la S.length lc] w1 (After w1 (F ++ G) B X Y Z (S.foldl stR raw) (S.foldl stC cs))) := HP
    have HWB : Hid (w.heap.size ≤ B) := by rw [Hid, hB]; simp
    clear hb HB hdu HP hB
    go_wp2_with fail
    refine HPP.out.mono ?_
    rintro e w2 ⟨rfl, F', G', _, hb2, _⟩
    have HF : Hid (Below w.heap.size w w2) := HB1.out.trans (hb2.mono HWB.out)
    clear hb2 HPP
    go_wp2_with fail
    go_ret
    exact ⟨rfl, HF.out⟩
end Go.Proofs.Ytgbmnngmfcneaaa.Pl
