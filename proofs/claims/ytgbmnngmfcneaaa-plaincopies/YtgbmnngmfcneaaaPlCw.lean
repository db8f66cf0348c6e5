/- PlainCopies walked. -/
import Derived.Test.YtgbmnngmfcneaaaPlW
import Derived.Test.YtgbmnngmfcneaaaPlCp
import Derived.Test.YtgbmnngmfcneaaaPmC
import Derived.Test.YtgbmnngmfcneaaaPlNw
namespace Go.Proofs.Ytgbmnngmfcneaaa.Pl
open Go.ChangeShapes Go.WideShapes Go.ChangeAt Go.RowKit
attribute [local go_sem ↓] Go.wp_at_zero Go.wp_at_succ

/-- One pair goes on, the other one stays. -/
theorem Du.beside {w w' : World} {B X : Nat} {F : List Nat} {Y : Nat} {G : List Nat} {X2 : Nat} {F2 : List Nat} {Y2 : Nat} {G2 Z K K' : List Nat} {raw2 : List Int} {cs2 : List Co} {raw : List Int} {cs : List Co} (h : Du w B X F Y G Z raw cs) (h2 : Du w B X2 F2 Y2 G2 Z raw2 cs2) (hK : K = F ++ G) (hap : ∀ b ∈ K, b ∉ F2 ++ G2) (hn : Next K K' w w') : Du w' B X2 F2 Y2 G2 Z raw2 cs2 ∧ ∀ b ∈ K', b ∉ F2 ++ G2 := by
  subst hK
  have hl := h2.lt
  refine ⟨h2.keep hn.1 (fun b hb hm => hap b hm (by simp [hb])) (fun b hb hm => hap b hm (by simp [hb])) (fun b hz hm => ?_), fun b hb hm => ?_⟩
  · rcases List.mem_append.1 hm with h1 | h1
    · exact h.fz b h1 hz
    · exact h.d.lo.2.2 b hz h1
  · rcases hn.2 b hb with h1 | h1
    · exact hap b h1 hm
    · rcases List.mem_append.1 hm with h3 | h3
      · have := hl.1 b h3; omega
      · have := hl.2.1 b h3; omega
theorem after_next {w : World} {K : List Nat} {B X Y : Nat} {Z : List Nat} {raw : List Int} {cs : List Co} {e : Ending} {w' : World} (h : After w K B X Y Z raw cs e w') : e = .returned (.bool true) ∧ ∃ F' G', Du w' B X F' Y G' Z raw cs ∧ Below B w w' ∧ Next K (F' ++ G') w w' := h
set_option maxRecDepth 100000 in
set_option maxHeartbeats 2000000 in
theorem copies_walk {w : World} {vc vl vm : Value} {c : Pc.Cf} {S T : List Stp} (h : Pc.CfV w vc c) (hl : Sl w vl S) (hm : Sl w vm T) : Calls Try.prog 4 #[vc, vl, vm] w fun e w' => e = .returned (.bool true) ∧ Below w.heap.size w w' := by
  obtain ⟨q, hq⟩ : ∃ q, Pc.okC c = q := ⟨_, rfl⟩
  obtain ⟨la, lc, hle, _⟩ := id hl
  obtain ⟨ma, mc, hme, _⟩ := id hm
  cases q with
  | false =>
    have HB : Hid (∀ w' : World, Below w.heap.size w w' → Calls Try.prog 8 #[vc] w' fun e w'' => e = .returned (.tuple #[.pointer none, .pointer none, .bool true]) ∧ Below w'.heap.size w' w'') := fun w' hb => both_no (h.later hb (Nat.le_refl _)) hq
    obtain ⟨vr, rfl, hR⟩ := h
    obtain ⟨ar, cap, rfl, -⟩ := hR
    obtain ⟨rw0, b, d, s, mu, t, R⟩ := c
    unfold Pc.cfA at *
    dsimp only at *
    clear hq hl hm
    subst hle hme
    go_enter Try.func4, Try.ntmps4
    go_wp2_with fail
    refine (HB.out _ (below_a1 _ _)).mono ?_
    rintro e w1 ⟨rfl, hb⟩
    have HF : Hid (Below w.heap.size w w1) := below_then (below_a1 _ _) hb
    clear hb HB
    go_wp2_with fail
    go_ret
    exact ⟨rfl, HF.out⟩
  | true =>
    have HB : Hid (∀ w' : World, Below w.heap.size w w' → Calls Try.prog 8 #[vc] w' fun e w'' => ∃ X F Y G Z, e = .returned (.tuple #[.pointer (some ⟨X, 0, none⟩), .pointer (some ⟨Y, 0, none⟩), .bool true]) ∧ Du w'' w'.heap.size X F Y G Z (newRaw c) (newCs c) ∧ Below w'.heap.size w' w'') := fun w' hb => both_yes (h.later hb (Nat.le_refl _)) hq
    have HL : Hid (Sl w vl S) := hl
    have HM : Hid (Sl w vm T) := hm
    generalize newRaw c = raw at *
    generalize newCs c = cs at *
    obtain ⟨vr, rfl, hR⟩ := h
    obtain ⟨ar, cap, rfl, -⟩ := hR
    obtain ⟨rw0, b, d, s, mu, t, R⟩ := c
    unfold Pc.cfA at *
    dsimp only at *
    clear hq hl hm
    subst hle hme
    go_enter Try.func4, Try.ntmps4
    go_wp2_with fail
    refine (HB.out _ (below_a1 _ _)).mono ?_
    rintro e w1 ⟨X, F, Y, G, Z, rfl, hdu, hb⟩
    have HB1 : Hid (Below w.heap.size w w1) := below_then (below_a1 _ _) hb
    obtain ⟨B, hB⟩ : ∃ B, B = (w.alloc (.cells #[.int .i64 rw0, .int .i64 b, .int .i64 d, .int .i64 s, .bool mu, .int .i64 t, .slice ar R.length cap] 24)).heap.size := ⟨_, rfl⟩
    rw [← hB] at hdu
    have HWB : Hid (w.heap.size ≤ B) := by rw [Hid, hB]; simp
    have HP1 : Hid (Calls Try.prog 9 #[.pointer (some ⟨X, 0, none⟩), .pointer (some ⟨Y, 0, none⟩), .slice la S.length lc] w1 (After w1 (F ++ G) B X Y Z (S.foldl stR raw) (S.foldl stC cs))) := plays_any HL.out HB1.out HWB.out hdu
    generalize S.foldl stR raw = raw1 at *
    generalize S.foldl stC cs = cs1 at *
    clear hb HB hdu hB
    go_wp2_with fail
    refine HP1.out.mono ?_
    rintro e w2 ⟨rfl, F1, G1, hdu1, hb2, hnx2⟩
    have HD1 : Hid (Du w2 B X F1 Y G1 Z raw1 cs1) := hdu1
    have HB2 : Hid (Below w.heap.size w w2) := HB1.out.trans (hb2.mono HWB.out)
    have HC1 : Hid (Calls Try.prog 10 #[.pointer (some ⟨X, 0, none⟩)] w2 fun e w' => ∃ X' F', e = .returned (.pointer (some ⟨X', 0, none⟩)) ∧ StAt w' w2.heap.size X' F' raw1 cs1 ∧ Below w2.heap.size w2 w') := copy_any hdu1.s
    have HC2 : Hid (∀ w', Below w2.heap.size w2 w' → Calls Try.prog 11 #[.pointer (some ⟨Y, 0, none⟩)] w' fun e w'' => ∃ Y' G', e = .returned (.pointer (some ⟨Y', 0, none⟩)) ∧ DtAt w'' B Y' G' Z raw1 cs1 ∧ (∀ b ∈ G', w'.heap.size ≤ b) ∧ Below w'.heap.size w' w'') := fun w' hb => rcopy_any (hdu1.d.later hb)
    clear hdu1 hb2 hnx2 HP1 HB1
    go_wp2_with fail
    refine HC1.out.mono ?_
    rintro e w3 ⟨X2, F2, rfl, hst, hb3⟩
    have HST : Hid (StAt w3 w2.heap.size X2 F2 raw1 cs1) := hst
    have HB3 : Hid (Below w2.heap.size w2 w3) := hb3
    clear hst hb3 HC1
    go_wp2_with fail
    refine (HC2.out _ HB3.out).mono ?_
    rintro e w4 ⟨Y2, G2, rfl, hdt, hg2, hb4⟩
    have HD2 : Hid (Du w4 B X F1 Y G1 Z raw1 cs1) := HD1.out.later (below_then HB3.out hb4)
    have HE2 : Hid (Du w4 B X2 F2 Y2 G2 Z raw1 cs1) := by
      have ls := HST.out.lo
      have hwB := HD1.out.wB
      refine ⟨(HST.out.later hb4).base hwB, hdt, fun b hb hm => ?_, fun b hb hm => ?_, HD2.out.wB⟩
      · have := (ls b hb).2
        have := hg2 b hm
        omega
      · have := (ls b hb).1
        have := HD1.out.lt.2.2 b hm
        omega
    have HAP : Hid (∀ b ∈ F1 ++ G1, b ∉ F2 ++ G2) := fun b hb hm => by
      have hl := HD1.out.lt
      have h1 : b < w2.heap.size := by
        rcases List.mem_append.1 hb with h1 | h1
        · exact hl.1 b h1
        · exact hl.2.1 b h1
      rcases List.mem_append.1 hm with h2 | h2
      · have := (HST.out.lo b h2).1; omega
      · have := hg2 b h2; have := HB3.out.size; omega
    have HB4 : Hid (Below w.heap.size w w4) := below_then HB2.out (below_then HB3.out hb4)
    have HA1 : Hid (Calls Try.prog 12 #[.pointer (some ⟨X2, 0, none⟩), .pointer (some ⟨Y2, 0, none⟩)] w4 fun e w' => e = .returned (.bool true) ∧ Below w4.heap.size w4 w') := alike_any HE2.out
    clear hdt hg2 hb4 HC2 HST HB3 HD1 HB2
    go_wp2_with fail
    refine HA1.out.mono ?_
    rintro e w5 ⟨rfl, hb5⟩
    have HD3 : Hid (Du w5 B X F1 Y G1 Z raw1 cs1) := HD2.out.later hb5
    have HE3 : Hid (Du w5 B X2 F2 Y2 G2 Z raw1 cs1) := HE2.out.later hb5
    have HB5 : Hid (Below w.heap.size w w5) := below_then HB4.out hb5
    have HP2 : Hid (Calls Try.prog 9 #[.pointer (some ⟨X, 0, none⟩), .pointer (some ⟨Y, 0, none⟩), .slice ma T.length mc] w5 (After w5 (F1 ++ G1) B X Y Z (T.foldl stR raw1) (T.foldl stC cs1))) := plays_any HM.out HB5.out HWB.out HD3.out
    generalize T.foldl stR raw1 = raw3 at *
    generalize T.foldl stC cs1 = cs3 at *
    clear hb5 HA1 HD2 HE2 HB4
    go_wp2_with fail
    refine HP2.out.mono ?_
    rintro e w6 ⟨rfl, F3, G3, hdu6, hb6, hnx6⟩
    obtain ⟨he6, hap6⟩ := HD3.out.beside HE3.out rfl HAP.out hnx6
    have HD6 : Hid (Du w6 B X F3 Y G3 Z raw3 cs3) := hdu6
    have HE6 : Hid (Du w6 B X2 F2 Y2 G2 Z raw1 cs1) := he6
    have HAP6 : Hid (∀ b ∈ F2 ++ G2, b ∉ F3 ++ G3) := fun b hb hm => hap6 b hm hb
    have HB6 : Hid (Below w.heap.size w w6) := HB5.out.trans (hb6.mono HWB.out)
    have HA2 : Hid (Calls Try.prog 12 #[.pointer (some ⟨X2, 0, none⟩), .pointer (some ⟨Y2, 0, none⟩)] w6 fun e w' => e = .returned (.bool true) ∧ Below w6.heap.size w6 w') := alike_any he6
    clear hdu6 hb6 hnx6 he6 hap6 HP2 HD3 HE3 HB5 HAP
    go_wp2_with fail
    refine HA2.out.mono ?_
    rintro e w7 ⟨rfl, hb7⟩
    have HD7 : Hid (Du w7 B X F3 Y G3 Z raw3 cs3) := HD6.out.later hb7
    have HE7 : Hid (Du w7 B X2 F2 Y2 G2 Z raw1 cs1) := HE6.out.later hb7
    have HB7 : Hid (Below w.heap.size w w7) := below_then HB6.out hb7
    have HP3 : Hid (Calls Try.prog 9 #[.pointer (some ⟨X2, 0, none⟩), .pointer (some ⟨Y2, 0, none⟩), .slice la S.length lc] w7 (After w7 (F2 ++ G2) B X2 Y2 Z (S.foldl stR raw1) (S.foldl stC cs1))) := plays_any HL.out HB7.out HWB.out HE7.out
    clear hb7 HA2 HD6 HE6 HB6
    go_wp2_with fail
    refine HP3.out.mono ?_
    rintro e w8 ⟨rfl, F4, G4, hdu8, hb8, hnx8⟩
    obtain ⟨hd8, _⟩ := HE7.out.beside HD7.out rfl HAP6.out hnx8
    have HB8 : Hid (Below w.heap.size w w8) := HB7.out.trans (hb8.mono HWB.out)
    have HA3 : Hid (Calls Try.prog 12 #[.pointer (some ⟨X, 0, none⟩), .pointer (some ⟨Y, 0, none⟩)] w8 fun e w' => e = .returned (.bool true) ∧ Below w8.heap.size w8 w') := alike_any hd8
    clear hdu8 hb8 hnx8 hd8 HP3 HD7 HE7 HB7 HAP6
    go_wp2_with fail
    refine HA3.out.mono ?_
    rintro e w9 ⟨rfl, hb9⟩
    have HFF : Hid (Below w.heap.size w w9) := below_then HB8.out hb9
    clear hb9 HA3
    go_wp2_with fail
    go_ret
    exact ⟨rfl, HFF.out⟩
end Go.Proofs.Ytgbmnngmfcneaaa.Pl
