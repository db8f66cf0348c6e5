/- The example at the head of layer 12's statements. -/
import Derived.Test.YtgjahjnomfijfaaGreatTyS
import Derived.Test.YtgjahjnomfijfaaGreatJTyBTyI
import Derived.Deep.CutBlock
import Derived.Deep.DeepCutAuto
namespace Go.Proofs.YtgjahjnomfijfaaGreat
open Go.ChangeShapes Go.WideShapes Go.ChangeAt Go.RowKit
attribute [local go_sem ↓] Go.wp_at_zero Go.wp_at_succ
set_option linter.unusedVariables false
def SH (w0 wx : World) (M T : Nat) (L : List Ac) (x : Tx) (R : List (Nat × Obj)) : Prop := ∃ F G, TM wx w0.heap.size (.pointer (some ⟨M, 0, none⟩)) 4 4 L F T x G ∧ Kept wx (G ++ F) R ∧ Below w0.heap.size w0 wx
theorem sh_later {w0 wx w' : World} {M T : Nat} {L : List Ac} {x : Tx} {R : List (Nat × Obj)} (h : SH w0 wx M T L x R) (k : Below wx.heap.size wx w') : SH w0 w' M T L x R := by
 obtain ⟨F, G, a, b, c⟩ := h
 exact ⟨F, G, a.below k, b.later k, below_then c k⟩
theorem sh_ans {w0 wx : World} {M T : Nat} {L : List Ac} {x : Tx} {R : List (Nat × Obj)} (h : SH w0 wx M T L x R) (o : Obj) : SH w0 (wx.alloc o) M T L x ((wx.heap.size, o) :: R) := by
 obtain ⟨F, G, a, b, c⟩ := h
 exact ⟨F, G, a.below (below_a1 _ _), b.more (fun q hq => (a.lt q hq).2) o, below_then c (below_a1 _ _)⟩
theorem sh_do {w0 wx : World} {M T : Nat} {L : List Ac} {x : Tx} {R : List (Nat × Obj)} (h : SH w0 wx M T L x R) (hL : L.length ≤ 100) (hE : x.ev.length ≤ 100) (hx : XOk x) (hd : Wd L) (a : Wa) :
  Calls Tryz.prog 22 #[.pointer (some ⟨T, 0, none⟩), .pointer (some ⟨M, 0, none⟩), .int .i64 1, .agg #[.int .i64 a.kind, .int .i64 a.cell, .int .i64 a.value, .int .i64 a.code]] wx fun e w' => e = .returned (.agg #[.int .i64 (doX 4 4 x L 1 a).k, .int .i64 (doX 4 4 x L 1 a).e, .int .i64 (doX 4 4 x L 1 a).v, .bool (doX 4 4 x L 1 a).y]) ∧ SH w0 w' M T (doX 4 4 x L 1 a).L (doX 4 4 x L 1 a).x R := by
 obtain ⟨F, G, tm, kp, bl⟩ := h
 refine (do_any tm bl.size (by omega) (by omega) hx hd (by omega) a 1).mono ?_
 rintro e w' ⟨rfl, F', G', q, n⟩
 exact ⟨rfl, F', G', q, kp.next n, below_keep bl n.1 (fun b hb => (tm.lt b hb).1)⟩
theorem sh_step {w0 wx : World} {M T : Nat} {L : List Ac} {x : Tx} {R : List (Nat × Obj)} (h : SH w0 wx M T L x R) (hL : L.length ≤ 100) (hE : x.ev.length ≤ 100) (hx : XOk x) (hd : Wd L) :
  Calls Tryz.prog 19 #[.pointer (some ⟨T, 0, none⟩), .pointer (some ⟨M, 0, none⟩), .int .i64 1] wx fun e w' => e = .returned (.agg #[.int .i64 (stepX 4 4 x L 1).k, .int .i64 (stepX 4 4 x L 1).e, .int .i64 (stepX 4 4 x L 1).v, .bool (stepX 4 4 x L 1).y]) ∧ SH w0 w' M T (stepX 4 4 x L 1).L (stepX 4 4 x L 1).x R := by
 obtain ⟨F, G, tm, kp, bl⟩ := h
 refine (step_any tm bl.size (by omega) (by omega) hx hd 1).mono ?_
 rintro e w' ⟨rfl, F', G', q, n⟩
 exact ⟨rfl, F', G', q, kp.next n, below_keep bl n.1 (fun b hb => (tm.lt b hb).1)⟩
theorem sh_phase {w0 wx : World} {M T : Nat} {L : List Ac} {x : Tx} {R : List (Nat × Obj)} (h : SH w0 wx M T L x R) : Calls Tryz.prog 16 #[.pointer (some ⟨T, 0, none⟩)] wx fun e w' => e = .returned (.int .i64 x.phase) ∧ SH w0 w' M T L x R := by
 have h' := h
 obtain ⟨F, G, tm, kp, bl⟩ := h
 refine (phase_any tm.tx).mono ?_
 rintro e w' ⟨rfl, hb⟩
 exact ⟨rfl, sh_later h' hb⟩
theorem sh_peek {w0 wx : World} {M T : Nat} {L : List Ac} {x : Tx} {R : List (Nat × Obj)} (h : SH w0 wx M T L x R) : Calls Tryz.prog 23 #[.pointer (some ⟨M, 0, none⟩), .agg #[.int .i64 4, .int .i64 3, .int .i64 0]] wx fun e w' => e = .returned (.tuple #[.int .i64 (wordOf L ⟨4, 3, 0⟩), .int .i64 0]) ∧ SH w0 w' M T L x R := by
 have h' := h
 obtain ⟨F, G, tm, kp, bl⟩ := h
 refine (peek_any tm.mem ⟨4, 3, 0⟩).mono ?_
 rintro e w' ⟨rfl, hb⟩
 exact ⟨rfl, sh_later h' hb⟩
def shO (k e v : Int) (y : Bool) : Obj := .cells #[.int .i64 k, .int .i64 e, .int .i64 v, .bool y] 55 (0, 0)
set_option maxRecDepth 100000 in
set_option maxHeartbeats 3200000 in
theorem cshown_any (w : World) : Calls Tryz.prog 6 #[] w fun e w' => e = .returned (.bool true) ∧ Below w.heap.size w w' := by
 have HMN : Hid (∀ w : World, Calls Tryz.prog 20 #[.int .i64 4, .int .i64 4] w fun e w' => ∃ p F, e = .returned (.tuple #[p, .int .i64 0]) ∧ p ≠ .pointer none ∧ MemAt w' w.heap.size p 4 4 [] F ∧ Below w.heap.size w w') := fun w => new_yes w 4 4 (by decide) (by decide)
 have HTN : Hid (∀ (w : World) (base : Nat), base ≤ w.heap.size → Calls Tryz.prog 21 #[.agg #[.int .i64 0, .int .i64 4, .int .i64 2, .int .i64 9, .bool false, .int .i64 0, .slice none 0 0]] w fun e w' => ∃ T G, e = .returned (.tuple #[.pointer (some ⟨T, 0, none⟩), .int .i64 0]) ∧ TxAt w' base T (newX 4 9 false 2) G ∧ (∀ q ∈ G, w.heap.size ≤ q) ∧ Below w.heap.size w w') := fun w base hb => newT_yes w base hb 0 4 2 9 false 0 (.slice none 0 0) (by decide) (by decide) (by decide) (by decide) (by decide) (by decide)
 have HTZ : Hid (∀ w : World, Calls Tryz.prog 21 #[.agg #[.int .i64 0, .int .i64 4, .int .i64 0, .int .i64 9, .bool false, .int .i64 0, .slice none 0 0]] w fun e w' => e = .returned (.tuple #[.pointer none, .int .i64 1]) ∧ Below w.heap.size w w') := fun w => newT_no w 0 4 0 9 false 0 (.slice none 0 0) (by decide)
 go_enter Tryz.func6, Tryz.ntmps6
 go_wp2_with fail
 refine (HMN.out _).mono ?_
 rintro e y1 ⟨p, F, rfl, hp, hm, hb1⟩
 obtain ⟨M, rfl⟩ := hm.ptr
 go_wp2_with fail
 refine (HTN.out _ w.heap.size hb1.size).mono ?_
 rintro e y2 ⟨T, G, rfl, ht, hG, hb2⟩
 go_wp2_with fail
 refine (HTZ.out _).mono ?_
 rintro e y3 ⟨rfl, hb3⟩
 have HT3 : Hid (SH w y3 M T [] (newX 4 9 false 2) []) := ⟨F, G, TM.below ⟨hm.below hb2, ht, fun z hz e => by have := hG z hz; have := (hm.lt z e).2; omega⟩ hb3, fun z hz => by simp at hz, below_then (below_then hb1 hb2) hb3⟩
 clear hp hm hb1 ht hG hb2 hb3 HMN HTN HTZ
 have HDA : Hid (Calls Tryz.prog 22 #[.pointer (some ⟨T, 0, none⟩), .pointer (some ⟨M, 0, none⟩), .int .i64 1, .agg #[.int .i64 1, .int .i64 0, .int .i64 0, .int .i64 0]] y3 fun e w' => e = .returned (.agg #[.int .i64 3, .int .i64 oA.e, .int .i64 oA.v, .bool oA.y]) ∧ SH w w' M T oA.L oA.x []) := by
  rw [← oA_k]
  exact sh_do HT3.out (by simp) (by simp [newX]) (xok_new (by omega) (by omega) (by omega) (by omega) (by omega) (by omega)) wd_nil ⟨1, 0, 0, 0⟩
 go_wp2_with fail
 refine HDA.out.mono ?_
 rintro e y4 ⟨rfl, h4⟩
 obtain ⟨z4, hz4⟩ : ∃ z4, z4 = y4.alloc (shO 3 oA.e oA.v oA.y) := ⟨_, rfl⟩
 have HT4 : Hid (SH w z4 M T oA.L oA.x [(y4.heap.size, shO 3 oA.e oA.v oA.y)]) := by rw [hz4]; exact sh_ans h4 _
 have HDB : Hid (Calls Tryz.prog 22 #[.pointer (some ⟨T, 0, none⟩), .pointer (some ⟨M, 0, none⟩), .int .i64 1, .agg #[.int .i64 3, .int .i64 3, .int .i64 7, .int .i64 0]] z4 fun e w' => e = .returned (.agg #[.int .i64 3, .int .i64 oB.e, .int .i64 oB.v, .bool oB.y]) ∧ SH w w' M T oB.L oB.x [(y4.heap.size, shO 3 oA.e oA.v oA.y)]) := by
  rw [← oB_k]
  obtain ⟨s1, s2, s3, s4⟩ := sh_a
  exact sh_do HT4.out (by omega) (by omega) s1 s2 ⟨3, 3, 7, 0⟩
 clear h4 HDA HT3 HT4
 unfold shO at hz4
 go_wp2_with fail
 rw [← hz4]
 refine HDB.out.mono ?_
 rintro e y5 ⟨rfl, h5⟩
 obtain ⟨Pa, hPa⟩ : ∃ Pa, y4.heap.size = Pa := ⟨_, rfl⟩
 rw [hPa] at h5
 rw [hPa]
 clear hz4 HDB hPa
 obtain ⟨z5, hz5⟩ : ∃ z5, z5 = y5.alloc (shO 3 oB.e oB.v oB.y) := ⟨_, rfl⟩
 have HT5 : Hid (SH w z5 M T oB.L oB.x [(y5.heap.size, shO 3 oB.e oB.v oB.y), (Pa, shO 3 oA.e oA.v oA.y)]) := by rw [hz5]; exact sh_ans h5 _
 have HDC : Hid (Calls Tryz.prog 22 #[.pointer (some ⟨T, 0, none⟩), .pointer (some ⟨M, 0, none⟩), .int .i64 1, .agg #[.int .i64 2, .int .i64 3, .int .i64 0, .int .i64 0]] z5 fun e w' => e = .returned (.agg #[.int .i64 oC.k, .int .i64 oC.e, .int .i64 7, .bool oC.y]) ∧ SH w w' M T oC.L oC.x [(y5.heap.size, shO 3 oB.e oB.v oB.y), (Pa, shO 3 oA.e oA.v oA.y)]) := by
  rw [← oC_v]
  obtain ⟨s1, s2, s3, s4⟩ := sh_b
  exact sh_do HT5.out (by omega) (by omega) s1 s2 ⟨2, 3, 0, 0⟩
 clear h5 HT5
 unfold shO at hz5
 go_wp2_with fail
 rw [← hz5]
 refine HDC.out.mono ?_
 rintro e y6 ⟨rfl, h6⟩
 obtain ⟨Pb, hPb⟩ : ∃ Pb, y5.heap.size = Pb := ⟨_, rfl⟩
 rw [hPb] at h6
 rw [hPb]
 clear hz5 HDC hPb
 obtain ⟨z6, hz6⟩ : ∃ z6, z6 = y6.alloc (shO oC.k oC.e 7 oC.y) := ⟨_, rfl⟩
 have HT6 : Hid (SH w z6 M T oC.L oC.x [(y6.heap.size, shO oC.k oC.e 7 oC.y), (Pb, shO 3 oB.e oB.v oB.y), (Pa, shO 3 oA.e oA.v oA.y)]) := by rw [hz6]; exact sh_ans h6 _
 have HDD : Hid (Calls Tryz.prog 22 #[.pointer (some ⟨T, 0, none⟩), .pointer (some ⟨M, 0, none⟩), .int .i64 1, .agg #[.int .i64 4, .int .i64 0, .int .i64 0, .int .i64 0]] z6 fun e w' => e = .returned (.agg #[.int .i64 2, .int .i64 oD.e, .int .i64 oD.v, .bool oD.y]) ∧ SH w w' M T oD.L oD.x [(y6.heap.size, shO oC.k oC.e 7 oC.y), (Pb, shO 3 oB.e oB.v oB.y), (Pa, shO 3 oA.e oA.v oA.y)]) := by
  rw [← oD_k]
  obtain ⟨s1, s2, s3, s4⟩ := sh_c
  exact sh_do HT6.out (by omega) (by omega) s1 s2 ⟨4, 0, 0, 0⟩
 clear h6 HT6
 unfold shO at hz6
 go_wp2_with fail
 rw [← hz6]
 refine HDD.out.mono ?_
 rintro e y7 ⟨rfl, h7⟩
 obtain ⟨Pc, hPc⟩ : ∃ Pc, y6.heap.size = Pc := ⟨_, rfl⟩
 rw [hPc] at h7
 rw [hPc]
 clear hz6 HDD hPc
 obtain ⟨z7, hz7⟩ : ∃ z7, z7 = y7.alloc (shO 2 oD.e oD.v oD.y) := ⟨_, rfl⟩
 have HT7 : Hid (SH w z7 M T oD.L oD.x [(y7.heap.size, shO 2 oD.e oD.v oD.y), (Pc, shO oC.k oC.e 7 oC.y), (Pb, shO 3 oB.e oB.v oB.y), (Pa, shO 3 oA.e oA.v oA.y)]) := by rw [hz7]; exact sh_ans h7 _
 have HPH : Hid (Calls Tryz.prog 16 #[.pointer (some ⟨T, 0, none⟩)] z7 fun e w' => e = .returned (.int .i64 4) ∧ SH w w' M T oD.L oD.x [(y7.heap.size, shO 2 oD.e oD.v oD.y), (Pc, shO oC.k oC.e 7 oC.y), (Pb, shO 3 oB.e oB.v oB.y), (Pa, shO 3 oA.e oA.v oA.y)]) := by
  rw [← oD_p]; exact sh_phase HT7.out
 clear h7 HT7
 unfold shO at hz7
 go_wp2_with fail
 rw [← hz7]
 refine HPH.out.mono ?_
 rintro e y8 ⟨rfl, h8⟩
 obtain ⟨Pd, hPd⟩ : ∃ Pd, y7.heap.size = Pd := ⟨_, rfl⟩
 rw [hPd] at h8
 rw [hPd]
 clear hz7 HPH hPd
 obtain ⟨R, hR⟩ : ∃ R : List (Nat × Obj), R = [(Pd, shO 2 oD.e oD.v oD.y), (Pc, shO oC.k oC.e 7 oC.y), (Pb, shO 3 oB.e oB.v oB.y), (Pa, shO 3 oA.e oA.v oA.y)] := ⟨_, rfl⟩
 rw [← hR] at h8
 have HR : Hid (R = [(Pd, shO 2 oD.e oD.v oD.y), (Pc, shO oC.k oC.e 7 oC.y), (Pb, shO 3 oB.e oB.v oB.y), (Pa, shO 3 oA.e oA.v oA.y)]) := hR
 have HH8 : Hid (SH w y8 M T (oS 0).L (oS 0).x R) := h8
 clear h8 hR
 go_wp2_with fail
 go_loopw [12] (fun iv wr => ∃ i : Nat, i ≤ 12 ∧ iv = .int .i64 i ∧ SH w wr M T (oS i).L (oS i).x R) (fun iv _ => 12 - (intOf iv).toNat)
 case atStart => exact ⟨0, by omega, rfl, HH8.out⟩
 case round =>
  obtain ⟨i, hi, rfl, hsh⟩ := hrel
  have HSH : Hid (SH w wr M T (oS i).L (oS i).x R) := hsh
  clear HH8 hsh
  by_cases hlt : i < 12
  ·have hx1 : (i : Int) < 12 := by omega
   obtain ⟨s1, s2, s3, s4⟩ := sh_s i
   have HST : Hid (∃ (a b c : Int) (d : Bool), Calls Tryz.prog 19 #[.pointer (some ⟨T, 0, none⟩), .pointer (some ⟨M, 0, none⟩), .int .i64 1] wr fun e w' => e = .returned (.agg #[.int .i64 a, .int .i64 b, .int .i64 c, .bool d]) ∧ SH w w' M T (oS (i + 1)).L (oS (i + 1)).x R) := ⟨_, _, _, _, sh_step HSH.out (by omega) (by omega) s1 s2⟩
   obtain ⟨a, b, c, d, hst⟩ := HST.out
   have HST : Hid (Calls Tryz.prog 19 #[.pointer (some ⟨T, 0, none⟩), .pointer (some ⟨M, 0, none⟩), .int .i64 1] wr fun e w' => e = .returned (.agg #[.int .i64 a, .int .i64 b, .int .i64 c, .bool d]) ∧ SH w w' M T (oS (i + 1)).L (oS (i + 1)).x R) := hst
   clear hst
   clear s1 s2 s3 s4
   go_wp2_with fail
   refine HST.out.mono ?_
   rintro e z ⟨rfl, hz⟩
   clear HST
   go_wp2
   go_roundw
   case rel => exact ⟨i + 1, by omega, by go_num, hz⟩
   case measure => simp [intOf]; omega
  ·obtain rfl : i = 12 := by omega
   have HPH : Hid (Calls Tryz.prog 16 #[.pointer (some ⟨T, 0, none⟩)] wr fun e w' => e = .returned (.int .i64 0) ∧ SH w w' M T (oS 12).L (oS 12).x R) := by rw [← oS_12]; exact sh_phase HSH.out
   go_wp2_with fail
   refine HPH.out.mono ?_
   rintro e z1 ⟨rfl, h1⟩
   have HPK : Hid (Calls Tryz.prog 23 #[.pointer (some ⟨M, 0, none⟩), .agg #[.int .i64 4, .int .i64 3, .int .i64 0]] z1 fun e w' => e = .returned (.tuple #[.int .i64 7, .int .i64 0]) ∧ SH w w' M T (oS 12).L (oS 12).x R) := by rw [← oS_w]; exact sh_peek h1
   clear h1 HPH HSH
   go_wp2_with fail
   refine HPK.out.mono ?_
   rintro e z2 ⟨rfl, F9, G9, _, kp, hbel⟩
   rw [HR.out] at kp
   have r1 := (kp (Pd, shO 2 oD.e oD.v oD.y) (by simp)).1
   have r2 := (kp (Pc, shO oC.k oC.e 7 oC.y) (by simp)).1
   have r3 := (kp (Pb, shO 3 oB.e oB.v oB.y) (by simp)).1
   have r4 := (kp (Pa, shO 3 oA.e oA.v oA.y) (by simp)).1
   unfold shO at r1 r2 r3 r4
   simp only at r1 r2 r3 r4
   have d1 : z2.cell? ⟨Pd, 0, none⟩ = some (.int .i64 2) := by rw [cell_at r1]; rfl
   have d2 : z2.cell? ⟨Pc, 2, none⟩ = some (.int .i64 7) := by rw [cell_at r2]; rfl
   have d3 : z2.cell? ⟨Pb, 0, none⟩ = some (.int .i64 3) := by rw [cell_at r3]; rfl
   have d4 : z2.cell? ⟨Pa, 0, none⟩ = some (.int .i64 3) := by rw [cell_at r4]; rfl
   have l1 := heap_lt r1
   have l2 := heap_lt r2
   have l3 := heap_lt r3
   have l4 := heap_lt r4
   clear r1 r2 r3 r4 kp HPK
   go_wp2
   go_ret
   exact ⟨rfl, hbel⟩
end Go.Proofs.YtgjahjnomfijfaaGreat
