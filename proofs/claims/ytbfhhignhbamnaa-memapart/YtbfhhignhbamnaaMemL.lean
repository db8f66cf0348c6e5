/- The law MemApart, walked. -/
import Derived.Test.YtbfhhignhbamnaaMemK
namespace Go.Proofs.Ytbfhhignhbamnaa
open Go.ChangeShapes Go.WideShapes Go.ChangeAt Go.RowKit

theorem logOf_stay (c r : Nat) (S : List Tk) (i : Nat) (h : S.length ≤ i) : logOf c r S (i + 1) = logOf c r S i := by
  unfold logOf; rw [List.take_of_length_le (by omega), List.take_of_length_le (by omega)]
theorem memAt_base {w : World} {base base' : Nat} {p : Value} {c r : Nat} {L : List Ac} {F : List Nat} (h : MemAt w base p c r L F) (hb : base' ≤ base) : MemAt w base' p c r L F := by
  obtain ⟨M, H, S, C, v, h⟩ := h
  exact ⟨M, H, S, C, v, h.p, h.m, own_base h.own hb, h.F, by have := h.bM; omega, by have := h.bH; omega, by have := h.bS; omega, by have := h.bC; omega, h.c, h.r⟩
theorem Duo.keep {w w' : World} {base : Nat} {p q : Value} {c r : Nat} {L K : List Ac} {F G X : List Nat} (h : Duo w base p q c r L K F G) (k : Keep X w w') (hd : ∀ b ∈ F ++ G, b ∉ X) : Duo w' base p q c r L K F G :=
  ⟨h.mem.keep k (fun b hb => hd b (by simp [hb])), h.ref.keep k (fun b hb => hd b (by simp [hb])), h.apart⟩
theorem Duo.lt {w : World} {base : Nat} {p q : Value} {c r : Nat} {L K : List Ac} {F G : List Nat} (h : Duo w base p q c r L K F G) : ∀ b ∈ F ++ G, base ≤ b ∧ b < w.heap.size := fun b hb => by
  rcases List.mem_append.1 hb with h1 | h1
  · exact h.mem.lt b h1
  · exact h.ref.lt b h1
/-- Two memories of the program's and two of the document's, apart from one another. -/
structure Two (w0 w : World) (bs : Nat) (p q p2 q2 : Value) (L K : List Ac) (F G F2 G2 : List Nat) : Prop where
  d1 : Duo w bs p q 5 3 L L F G
  d2 : Duo w bs p2 q2 5 3 K K F2 G2
  apart : ∀ b ∈ F ++ G, b ∉ F2 ++ G2
  bel : Below w0.heap.size w0 w
  lo : w0.heap.size ≤ bs
  size : bs ≤ w.heap.size
theorem Two.on1 {w0 w w' : World} {bs : Nat} {p q p2 q2 : Value} {L L' K : List Ac} {F G F2 G2 F' G' : List Nat} (h : Two w0 w bs p q p2 q2 L K F G F2 G2) (hd : Duo w' bs p q 5 3 L' L' F' G') (hn : Next (F ++ G) (F' ++ G') w w') : Two w0 w' bs p q p2 q2 L' K F' G' F2 G2 :=
  ⟨hd, h.d2.keep hn.1 (fun b hb hf => h.apart b hf hb), fun b hb hg => by
    rcases hn.2 b hb with h1 | h1
    · exact h.apart b h1 hg
    · have := (h.d2.lt b hg).2; omega, h.bel.trans (hn.below h.bel.size (fun b hb => by have := (h.d1.lt b hb).1; have := h.lo; omega)), h.lo, Nat.le_trans h.size hn.1.size⟩
theorem Two.on2 {w0 w w' : World} {bs : Nat} {p q p2 q2 : Value} {L K K' : List Ac} {F G F2 G2 F' G' : List Nat} (h : Two w0 w bs p q p2 q2 L K F G F2 G2) (hd : Duo w' bs p2 q2 5 3 K' K' F' G') (hn : Next (F2 ++ G2) (F' ++ G') w w') : Two w0 w' bs p q p2 q2 L K' F G F' G' :=
  ⟨h.d1.keep hn.1 (fun b hb hf => h.apart b hb hf), hd, fun b hb hg => by
    rcases hn.2 b hg with h1 | h1
    · exact h.apart b hb h1
    · have := (h.d1.lt b hb).2; omega, h.bel.trans (hn.below h.bel.size (fun b hb => by have := (h.d2.lt b hb).1; have := h.lo; omega)), h.lo, Nat.le_trans h.size hn.1.size⟩
theorem Two.later {w0 w w' : World} {bs : Nat} {p q p2 q2 : Value} {L K : List Ac} {F G F2 G2 : List Nat} (h : Two w0 w bs p q p2 q2 L K F G F2 G2) (hb : Below w.heap.size w w') : Two w0 w' bs p q p2 q2 L K F G F2 G2 :=
  ⟨h.d1.below hb, h.d2.below hb, h.apart, below_then h.bel hb, h.lo, Nat.le_trans h.size hb.size⟩

set_option maxRecDepth 100000 in
set_option maxHeartbeats 6400000 in
theorem apart_walk (w : World) (v u : Value) (S S2 : List Tk) (hv : ALst w v S) (hu : ALst w u S2) :
    Calls Try.prog 5 #[v, u] w fun e w' => e = .returned (.bool true) ∧ Below w.heap.size w w' := by
  have HS : Hid (∀ w : World, Calls Try.prog 6 #[] w fun e w' => e = .returned (.bool true) ∧ Below w.heap.size w w') := shown_any
  have HN : Hid (∀ w : World, Calls Try.prog 7 #[.int .i64 5, .int .i64 3] w fun e w' => ∃ p F, e = .returned (.tuple #[p, .int .i64 0]) ∧ p ≠ .pointer none ∧ MemAt w' w.heap.size p 5 3 [] F ∧ Below w.heap.size w w') := fun w => new_yes w 5 3 (by decide) (by decide)
  have HR : Hid (∀ w : World, Calls Try.prog 10 #[.int .i64 5, .int .i64 3] w fun e w' => ∃ p G, e = .returned p ∧ RefAt w' w.heap.size p 5 3 [] G ∧ Below w.heap.size w w') := rnew_any 5 3
  obtain ⟨va, vcap, rfl, hbig, hl⟩ := hv
  obtain ⟨ua, ucap, rfl, hbig2, hl2⟩ := hu
  have HC : Hid (∀ q, q < S.length → ∃ x, va = some x ∧ x.block < w.heap.size ∧ Row8 w (x.add (q * 8)) (tkC (S.getD q noTk))) := by
    intro q hq
    rcases hl with rfl | ⟨x, hx, hxb, hcc⟩
    · exact absurd hq (by simp)
    · exact ⟨x, hx, hxb, hcc q hq⟩
  have HC2 : Hid (∀ q, q < S2.length → ∃ x, ua = some x ∧ x.block < w.heap.size ∧ Row8 w (x.add (q * 8)) (tkC (S2.getD q noTk))) := by
    intro q hq
    rcases hl2 with rfl | ⟨x, hx, hxb, hcc⟩
    · exact absurd hq (by simp)
    · exact ⟨x, hx, hxb, hcc q hq⟩
  clear hl hl2
  have HLN : Hid (∀ q, (logOf 5 3 S q).length ≤ q) := logOf_len 5 3 S
  have HGD : Hid (∀ q, Good 5 3 (logOf 5 3 S q)) := good_logOf 5 3 S
  have HSU : Hid (∀ q, q < S.length → logOf 5 3 S (q + 1) = stepL 5 3 (logOf 5 3 S q) (S.getD q noTk)) := logOf_succ 5 3 S
  have HSS : Hid (∀ q, S.length ≤ q → logOf 5 3 S (q + 1) = logOf 5 3 S q) := logOf_stay 5 3 S
  have HLN2 : Hid (∀ q, (logOf 5 3 S2 q).length ≤ q) := logOf_len 5 3 S2
  have HGD2 : Hid (∀ q, Good 5 3 (logOf 5 3 S2 q)) := good_logOf 5 3 S2
  have HSU2 : Hid (∀ q, q < S2.length → logOf 5 3 S2 (q + 1) = stepL 5 3 (logOf 5 3 S2 q) (S2.getD q noTk)) := logOf_succ 5 3 S2
  have HSS2 : Hid (∀ q, S2.length ≤ q → logOf 5 3 S2 (q + 1) = logOf 5 3 S2 q) := logOf_stay 5 3 S2
  generalize hn : S.length = n at *
  generalize hm : S2.length = m at *
  clear hn hm
  go_enter Try.func5, Try.ntmps5
  go_wp2_with fail
  refine (HS.out _).mono ?_
  rintro e w1 ⟨rfl, hb1⟩
  have HB1 : Hid (Below w.heap.size w w1) := hb1
  clear hb1
  go_wp2_with fail
  refine (HN.out _).mono ?_
  rintro e w3 ⟨p, F3, rfl, _, hm3, hb3⟩
  obtain ⟨M, rfl⟩ := hm3.ptr
  have HM3 : Hid (MemAt w3 w1.heap.size (.pointer (some ⟨M, 0, none⟩)) 5 3 [] F3) := hm3
  have HB3 : Hid (Below w1.heap.size w1 w3) := hb3
  clear hm3 hb3
  go_wp2_with fail
  refine (HN.out _).mono ?_
  rintro e w5 ⟨p, F5, rfl, _, hm5, hb5⟩
  obtain ⟨M2, rfl⟩ := hm5.ptr
  have HM5 : Hid (MemAt w5 w3.heap.size (.pointer (some ⟨M2, 0, none⟩)) 5 3 [] F5) := hm5
  have HM35 : Hid (MemAt w5 w1.heap.size (.pointer (some ⟨M, 0, none⟩)) 5 3 [] F3) := HM3.out.below hb5
  have HB5 : Hid (Below w1.heap.size w1 w5) := below_then HB3.out hb5
  have hs35 : w1.heap.size ≤ w3.heap.size ∧ w3.heap.size ≤ w5.heap.size := ⟨HB3.out.size, hb5.size⟩
  clear hm5 hb5
  go_wp2_with fail
  refine (HR.out _).mono ?_
  rintro e w6 ⟨q0, G6, rfl, hr6, hb6⟩
  obtain ⟨R, rfl⟩ := hr6.ptr
  have HR6 : Hid (RefAt w6 w5.heap.size (.pointer (some ⟨R, 0, none⟩)) 5 3 [] G6) := hr6
  have HB6 : Hid (Below w5.heap.size w5 w6) := hb6
  have hs6 := hb6.size
  clear hr6 hb6
  go_wp2_with fail
  refine (HR.out _).mono ?_
  rintro e w7 ⟨q0, G7, rfl, hr7, hb7⟩
  obtain ⟨R2, rfl⟩ := hr7.ptr
  have hs7 := hb7.size
  have HB57 : Hid (Below w5.heap.size w5 w7) := below_then HB6.out hb7
  have HW7 : Hid (Two w w7 w1.heap.size (.pointer (some ⟨M, 0, none⟩)) (.pointer (some ⟨R, 0, none⟩)) (.pointer (some ⟨M2, 0, none⟩)) (.pointer (some ⟨R2, 0, none⟩)) [] [] F3 G6 F5 G7) := by
    have l3 : ∀ b ∈ F3, b < w3.heap.size := fun b hb => (HM3.out.lt b hb).2
    have l5 := HM5.out.lt
    have l6 := HR6.out.lt
    have l7 := hr7.lt
    refine ⟨⟨HM35.out.below HB57.out, refAt_base (HR6.out.below hb7) (by omega), fun b hb hg => ?_⟩, ⟨memAt_base (HM5.out.below HB57.out) (by omega), refAt_base hr7 (by omega), fun b hb hg => ?_⟩, fun b hb hg => ?_, below_then HB1.out (below_then HB5.out HB57.out), HB1.out.size, by omega⟩
    · have := l3 b hb; have := (l6 b hg).1; omega
    · have := (l5 b hb).2; have := (l7 b hg).1; omega
    · rcases List.mem_append.1 hb with h1 | h1
      · have := l3 b h1
        rcases List.mem_append.1 hg with h2 | h2
        · have := (l5 b h2).1; omega
        · have := (l7 b h2).1; omega
      · have := l6 b h1
        rcases List.mem_append.1 hg with h2 | h2
        · have := (l5 b h2).2; omega
        · have := (l7 b h2).1; omega
  clear hr7 hb7 HM5 HM35 HM3 HB3 HB5 HB6 HR6 HB57 hs35 hs6 hs7
  generalize hbs : w1.heap.size = bs at *
  clear hbs
  go_wp2
  go_loopw [12] (fun iv wr => ∃ q : Nat, q ≤ max n m ∧ iv = .int .i64 q ∧ ∃ F G F2 G2, Two w wr bs (.pointer (some ⟨M, 0, none⟩)) (.pointer (some ⟨R, 0, none⟩)) (.pointer (some ⟨M2, 0, none⟩)) (.pointer (some ⟨R2, 0, none⟩)) (logOf 5 3 S q) (logOf 5 3 S2 q) F G F2 G2) (fun iv _ => max n m - (intOf iv).toNat)
  case atStart => exact ⟨0, Nat.zero_le _, rfl, F3, G6, F5, G7, HW7.out⟩
  case round =>
    obtain ⟨q, hq, rfl, F, G, F2, G2, htwo⟩ := hrel
    have HW : Hid (Two w wr bs (.pointer (some ⟨M, 0, none⟩)) (.pointer (some ⟨R, 0, none⟩)) (.pointer (some ⟨M2, 0, none⟩)) (.pointer (some ⟨R2, 0, none⟩)) (logOf 5 3 S q) (logOf 5 3 S2 q) F G F2 G2) := htwo
    clear htwo
    have hL : (logOf 5 3 S q).length < 2199023255552 := by have := HLN.out q; omega
    have hL2 : (logOf 5 3 S2 q).length < 2199023255552 := by have := HLN2.out q; omega
    by_cases hlt : q < n
    · have hdn : decide ((q : Int) < (n : Int)) = true := by simp; omega
      have hxn : (q : Int) < (n : Int) := by omega
      by_cases hlt2 : q < m
      · have hdm : decide ((q : Int) < (m : Int)) = true := by simp; omega
        have hxm : (q : Int) < (m : Int) := by omega
        obtain ⟨x, rfl, hxb, hrow⟩ := HC.out q hlt
        have hrw := hrow.later rfl HW.out.bel (by rw [add_block]; exact hxb)
        have HDO : Hid (Calls Try.prog 11 #[(.pointer (some ⟨M, 0, none⟩)), (.pointer (some ⟨R, 0, none⟩)), .agg (tkC (S.getD q noTk))] wr fun e w' => e = .returned (.bool true) ∧ ∃ F' G', Duo w' bs (.pointer (some ⟨M, 0, none⟩)) (.pointer (some ⟨R, 0, none⟩)) 5 3 (logOf 5 3 S (q + 1)) (logOf 5 3 S (q + 1)) F' G' ∧ Next (F ++ G) (F' ++ G') wr w') := by
          rw [Hid, HSU.out q hlt]
          exact does_any HW.out.d1 HW.out.size hL (HGD.out q) _
        generalize S.getD q noTk = tkx at hrw HDO
        obtain ⟨tk, tt, ⟨ak, ai, aj⟩, to, tv, tn⟩ := tkx
        obtain ⟨d0, d1, d2, d3, d4, d5, d6, d7⟩ := row8_cells hrw rfl
        simp only [tkC, List.getElem_toArray, List.getElem_cons_zero, List.getElem_cons_succ] at d0 d1 d2 d3 d4 d5 d6 d7 HDO
        clear hrw hrow
        go_wp2_with fail
        refine HDO.out.mono ?_
        rintro e wA ⟨rfl, FA, GA, hd7, hn7⟩
        have HWA : Hid (Two w wA bs (.pointer (some ⟨M, 0, none⟩)) (.pointer (some ⟨R, 0, none⟩)) (.pointer (some ⟨M2, 0, none⟩)) (.pointer (some ⟨R2, 0, none⟩)) (logOf 5 3 S (q + 1)) (logOf 5 3 S2 q) FA GA F2 G2) := HW.out.on1 hd7 hn7
        clear hd7 hn7 d0 d1 d2 d3 d4 d5 d6 d7
        obtain ⟨x2, rfl, hxb2, hrow2⟩ := HC2.out q hlt2
        have hrw2 := hrow2.later rfl HWA.out.bel (by rw [add_block]; exact hxb2)
        have HDO2 : Hid (Calls Try.prog 11 #[(.pointer (some ⟨M2, 0, none⟩)), (.pointer (some ⟨R2, 0, none⟩)), .agg (tkC (S2.getD q noTk))] wA fun e w' => e = .returned (.bool true) ∧ ∃ F' G', Duo w' bs (.pointer (some ⟨M2, 0, none⟩)) (.pointer (some ⟨R2, 0, none⟩)) 5 3 (logOf 5 3 S2 (q + 1)) (logOf 5 3 S2 (q + 1)) F' G' ∧ Next (F2 ++ G2) (F' ++ G') wA w') := by
          rw [Hid, HSU2.out q hlt2]
          exact does_any HWA.out.d2 HWA.out.size hL2 (HGD2.out q) _
        generalize S2.getD q noTk = tkx2 at hrw2 HDO2
        obtain ⟨tk2, tt2, ⟨ak2, ai2, aj2⟩, to2, tv2, tn2⟩ := tkx2
        obtain ⟨d0, d1, d2, d3, d4, d5, d6, d7⟩ := row8_cells hrw2 rfl
        simp only [tkC, List.getElem_toArray, List.getElem_cons_zero, List.getElem_cons_succ] at d0 d1 d2 d3 d4 d5 d6 d7 HDO2
        clear hrw2 hrow2
        go_wp2_with fail
        refine HDO2.out.mono ?_
        rintro e wB ⟨rfl, FA2, GA2, hd7, hn7⟩
        have HWB : Hid (Two w wB bs (.pointer (some ⟨M, 0, none⟩)) (.pointer (some ⟨R, 0, none⟩)) (.pointer (some ⟨M2, 0, none⟩)) (.pointer (some ⟨R2, 0, none⟩)) (logOf 5 3 S (q + 1)) (logOf 5 3 S2 (q + 1)) FA GA FA2 GA2) := HWA.out.on2 hd7 hn7
        clear hd7 hn7 d0 d1 d2 d3 d4 d5 d6 d7
        go_wp2
        go_roundw
        case rel => exact ⟨q + 1, by omega, by go_num, FA, GA, FA2, GA2, HWB.out⟩
        case measure => simp [intOf]; omega
      · have hdm : decide ((q : Int) < (m : Int)) = false := by simp; omega
        obtain ⟨x, rfl, hxb, hrow⟩ := HC.out q hlt
        have hrw := hrow.later rfl HW.out.bel (by rw [add_block]; exact hxb)
        have HDO : Hid (Calls Try.prog 11 #[(.pointer (some ⟨M, 0, none⟩)), (.pointer (some ⟨R, 0, none⟩)), .agg (tkC (S.getD q noTk))] wr fun e w' => e = .returned (.bool true) ∧ ∃ F' G', Duo w' bs (.pointer (some ⟨M, 0, none⟩)) (.pointer (some ⟨R, 0, none⟩)) 5 3 (logOf 5 3 S (q + 1)) (logOf 5 3 S (q + 1)) F' G' ∧ Next (F ++ G) (F' ++ G') wr w') := by
          rw [Hid, HSU.out q hlt]
          exact does_any HW.out.d1 HW.out.size hL (HGD.out q) _
        generalize S.getD q noTk = tkx at hrw HDO
        obtain ⟨tk, tt, ⟨ak, ai, aj⟩, to, tv, tn⟩ := tkx
        obtain ⟨d0, d1, d2, d3, d4, d5, d6, d7⟩ := row8_cells hrw rfl
        simp only [tkC, List.getElem_toArray, List.getElem_cons_zero, List.getElem_cons_succ] at d0 d1 d2 d3 d4 d5 d6 d7 HDO
        clear hrw hrow
        go_wp2_with fail
        refine HDO.out.mono ?_
        rintro e wA ⟨rfl, FA, GA, hd7, hn7⟩
        have HWA : Hid (Two w wA bs (.pointer (some ⟨M, 0, none⟩)) (.pointer (some ⟨R, 0, none⟩)) (.pointer (some ⟨M2, 0, none⟩)) (.pointer (some ⟨R2, 0, none⟩)) (logOf 5 3 S (q + 1)) (logOf 5 3 S2 q) FA GA F2 G2) := HW.out.on1 hd7 hn7
        clear hd7 hn7 d0 d1 d2 d3 d4 d5 d6 d7
        go_wp2
        go_roundw
        case rel => exact ⟨q + 1, by omega, by go_num, FA, GA, F2, G2, by rw [HSS2.out q (by omega)]; exact HWA.out⟩
        case measure => simp [intOf]; omega
    · have hdn : decide ((q : Int) < (n : Int)) = false := by simp; omega
      by_cases hlt2 : q < m
      · have hdm : decide ((q : Int) < (m : Int)) = true := by simp; omega
        have hxm : (q : Int) < (m : Int) := by omega
        obtain ⟨x2, rfl, hxb2, hrow2⟩ := HC2.out q hlt2
        have hrw2 := hrow2.later rfl HW.out.bel (by rw [add_block]; exact hxb2)
        have HDO2 : Hid (Calls Try.prog 11 #[(.pointer (some ⟨M2, 0, none⟩)), (.pointer (some ⟨R2, 0, none⟩)), .agg (tkC (S2.getD q noTk))] wr fun e w' => e = .returned (.bool true) ∧ ∃ F' G', Duo w' bs (.pointer (some ⟨M2, 0, none⟩)) (.pointer (some ⟨R2, 0, none⟩)) 5 3 (logOf 5 3 S2 (q + 1)) (logOf 5 3 S2 (q + 1)) F' G' ∧ Next (F2 ++ G2) (F' ++ G') wr w') := by
          rw [Hid, HSU2.out q hlt2]
          exact does_any HW.out.d2 HW.out.size hL2 (HGD2.out q) _
        generalize S2.getD q noTk = tkx2 at hrw2 HDO2
        obtain ⟨tk2, tt2, ⟨ak2, ai2, aj2⟩, to2, tv2, tn2⟩ := tkx2
        obtain ⟨d0, d1, d2, d3, d4, d5, d6, d7⟩ := row8_cells hrw2 rfl
        simp only [tkC, List.getElem_toArray, List.getElem_cons_zero, List.getElem_cons_succ] at d0 d1 d2 d3 d4 d5 d6 d7 HDO2
        clear hrw2 hrow2
        go_wp2_with fail
        refine HDO2.out.mono ?_
        rintro e wB ⟨rfl, FA2, GA2, hd7, hn7⟩
        have HWB : Hid (Two w wB bs (.pointer (some ⟨M, 0, none⟩)) (.pointer (some ⟨R, 0, none⟩)) (.pointer (some ⟨M2, 0, none⟩)) (.pointer (some ⟨R2, 0, none⟩)) (logOf 5 3 S q) (logOf 5 3 S2 (q + 1)) F G FA2 GA2) := HW.out.on2 hd7 hn7
        clear hd7 hn7 d0 d1 d2 d3 d4 d5 d6 d7
        go_wp2
        go_roundw
        case rel => exact ⟨q + 1, by omega, by go_num, F, G, FA2, GA2, by rw [HSS.out q (by omega)]; exact HWB.out⟩
        case measure => simp [intOf]; omega
      · have hdm : decide ((q : Int) < (m : Int)) = false := by simp; omega
        have HLG : Hid (∀ (w : World) F G, MemAt w bs (.pointer (some ⟨M, 0, none⟩)) 5 3 (logOf 5 3 S q) F → RefAt w bs (.pointer (some ⟨R, 0, none⟩)) 5 3 (logOf 5 3 S q) G → Calls Try.prog 12 #[(.pointer (some ⟨M, 0, none⟩)), (.pointer (some ⟨R, 0, none⟩)), .int .i64 0] w fun e w' => e = .returned (.bool true) ∧ Below w.heap.size w w') := fun w F G h1 h2 => logs_any h1 h2 hL 0
        have HLG2 : Hid (∀ (w : World) F G, MemAt w bs (.pointer (some ⟨M2, 0, none⟩)) 5 3 (logOf 5 3 S2 q) F → RefAt w bs (.pointer (some ⟨R2, 0, none⟩)) 5 3 (logOf 5 3 S2 q) G → Calls Try.prog 12 #[(.pointer (some ⟨M2, 0, none⟩)), (.pointer (some ⟨R2, 0, none⟩)), .int .i64 0] w fun e w' => e = .returned (.bool true) ∧ Below w.heap.size w w') := fun w F G h1 h2 => logs_any h1 h2 hL2 0
        go_wp2_with fail
        refine (HLG.out _ _ _ HW.out.d1.mem HW.out.d1.ref).mono ?_
        rintro e w8 ⟨rfl, hb8⟩
        have HW8 : Hid (Two w w8 bs (.pointer (some ⟨M, 0, none⟩)) (.pointer (some ⟨R, 0, none⟩)) (.pointer (some ⟨M2, 0, none⟩)) (.pointer (some ⟨R2, 0, none⟩)) (logOf 5 3 S q) (logOf 5 3 S2 q) F G F2 G2) := HW.out.later hb8
        clear hb8
        go_wp2_with fail
        refine (HLG2.out _ _ _ HW8.out.d2.mem HW8.out.d2.ref).mono ?_
        rintro e w9 ⟨rfl, hb9⟩
        have HW9 : Hid (Two w w9 bs (.pointer (some ⟨M, 0, none⟩)) (.pointer (some ⟨R, 0, none⟩)) (.pointer (some ⟨M2, 0, none⟩)) (.pointer (some ⟨R2, 0, none⟩)) (logOf 5 3 S q) (logOf 5 3 S2 q) F G F2 G2) := HW8.out.later hb9
        clear hb9
        go_wp2
        go_ret
        exact ⟨rfl, HW9.out.bel⟩
end Go.Proofs.Ytbfhhignhbamnaa
