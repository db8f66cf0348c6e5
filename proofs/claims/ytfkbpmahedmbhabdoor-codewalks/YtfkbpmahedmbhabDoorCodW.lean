/- CodeWalks, walked. -/
import Derived.Test.YtfkbpmahedmbhabDoorCodD
namespace Go.Proofs.YtfkbpmahedmbhabDoor
open Go.ChangeShapes Go.WideShapes Go.ChangeAt Go.RowKit

theorem dec_next {s : ByteArray} {k p : Nat} {pre : List (Int × Int)} {D : List (Int × Int) × Int × Int} {c : Nat} {x : Int} (hD : D = decG s k p (pre ++ [((c : Int), x)])) (hk : s.size < p + k) (hp : p ≤ s.size) (h0 : D.2.1 = 0) : pre.length < D.1.length ∧ D.1.getD pre.length (0, 0) = ((c : Int), x) := by
  rw [hD] at h0 ⊢
  obtain ⟨t, h, _⟩ := dec_ok s k p _ hk hp h0
  rw [h]
  constructor
  · simp
  · simp [List.getD]
set_option maxHeartbeats 1000000 in
theorem wwalks (s : ByteArray) (hs : s.size ≤ maxLen) {w : World} (hT : Tab w) :
    Calls Tryd.prog 3 #[.string s] w fun e w' => e = .returned (.bool true) ∧ Below w.heap.size w w' := by
  have hs' : s.size ≤ 9223372036854775807 := by unfold maxLen at hs; omega
  have HA : Hid (Calls Tryd.prog 5 #[.string s] w fun e w' => ∃ v, e = .returned (.tuple #[v, .int .i64 (decV s).2.1, .int .i64 (decV s).2.2]) ∧ w'.ownsRow w.heap.size 27 2 v (decV s).1.length (opsC (decV s).1) ∧ Below w.heap.size w w') := dec_any s hs' hT
  have HAT : Hid (∀ (p : Nat) w', Below w.heap.size w w' → Calls Tryd.prog 6 #[.string s, .int .i64 (p : Int)] w' fun e w'' => e = .returned (ansA (atS s p)) ∧ Below w'.heap.size w' w'') := fun p w' hb => at_any s hs' p (hT.later hb)
  have HL : Hid ((decV s).1.length ≤ 512) := decV_len s
  clear hT hs
  by_cases hbig : 512 < s.size
  · have e : decV s = ([], 2, 0) := by unfold decV; rw [if_pos hbig]
    rw [e] at HA
    have hd : decide ((512 : Int) < (s.size : Int)) = true := by simp; omega
    go_enter Tryd.func3, Tryd.ntmps3
    go_wp2_with fail
    refine HA.out.mono ?_
    rintro e w1 ⟨v1, rfl, ho1, hb1⟩
    obtain ⟨a1, k1, rfl⟩ := own_slice ho1
    go_wp2
    go_ret
    exact ⟨rfl, hb1⟩
  · have HE : Hid (decV s = decG s (s.size + 1) 0 []) := by unfold decV; rw [Hid, if_neg hbig]
    have hd : decide ((512 : Int) < (s.size : Int)) = false := by simp; omega
    obtain ⟨D, hD⟩ : ∃ D, decV s = D := ⟨_, rfl⟩
    rw [hD] at HA HE HL
    clear hD
    obtain ⟨l, hl⟩ : ∃ l, D.1 = l := ⟨_, rfl⟩
    obtain ⟨e1, he1⟩ : ∃ e1, D.2.1 = e1 := ⟨_, rfl⟩
    obtain ⟨e2, he2⟩ : ∃ e2, D.2.2 = e2 := ⟨_, rfl⟩
    rw [hl, he1, he2] at HA
    rw [hl] at HL
    have H1 : Hid (D.1 = l ∧ D.2.1 = e1 ∧ D.2.2 = e2) := ⟨hl, he1, he2⟩
    clear hl he1 he2
    go_enter Tryd.func3, Tryd.ntmps3
    go_wp2_with fail
    refine HA.out.mono ?_
    rintro e w1 ⟨v1, rfl, ho1, hb1⟩
    obtain ⟨a1, cap, hcap, hlen, hrow⟩ := OLst.of_own ho1 (by have := HL.out; omega)
    subst hcap
    have HROW : Hid (l.length = 0 ∨ ∃ x, a1 = some x ∧ x.block < w1.heap.size ∧ ∀ i, i < l.length → w1.cell? (x.add (i * 2)) = some (.int .i64 (l.getD i (0, 0)).1) ∧ w1.cell? ⟨(x.add (i * 2)).block, (x.add (i * 2)).off + 1, none⟩ = some (.int .i64 (l.getD i (0, 0)).2)) := hrow
    have HB1 : Hid (Below w.heap.size w w1) := hb1
    clear hrow hb1 ho1 HA
    go_wp2
    go_loopw [6, 7] (fun pv iv wr => ∃ (p k j : Nat) (pre : List (Int × Int)), p ≤ s.size ∧ pv = .int .i64 (p : Int) ∧ iv = .int .i64 (j : Int) ∧ s.size < p + k ∧ pre.length = j ∧ j ≤ p ∧ D = decG s k p pre ∧ Below w1.heap.size w1 wr) (fun pv _ _ => s.size - (intOf pv).toNat)
    case atStart => exact ⟨0, s.size + 1, 0, [], by omega, rfl, rfl, by omega, rfl, by omega, HE.out, Below.refl _ _⟩
    case round =>
      obtain ⟨p, k, j, pre, hp, rfl, rfl, hk, hpre, hjp, hdec, hbel⟩ := hrel
      have HD : Hid (D = decG s k p pre) := hdec
      have HB : Hid (Below w1.heap.size w1 wr) := hbel
      have HP : Hid (pre.length = j) := hpre
      clear hdec hbel hpre
      obtain ⟨k, rfl⟩ : ∃ k', k = k' + 1 := ⟨k - 1, by omega⟩
      by_cases hlt : p < s.size
      · have hpd : decide ((p : Int) < (s.size : Int)) = true := by simp; omega
        have hat : atS s (p : Int) = atV (fr s p) (s.size - p) := by unfold atS; rw [if_neg (by omega), Int.toNat_natCast]
        cases ho : atV (fr s p) (s.size - p) with
        | none =>
          have HF : D = ([], 10, (p : Int)) := by rw [HD.out]; unfold decG; rw [if_neg (by omega), ho]
          rw [HF] at H1
          obtain ⟨rfl, rfl, rfl⟩ := H1.out
          rw [ho] at hat
          have HC : Hid (Calls Tryd.prog 6 #[.string s, .int .i64 (p : Int)] wr fun e w'' => e = .returned (.tuple #[.agg #[.int .i64 0, .int .i64 0], .int .i64 0, .int .i64 10]) ∧ Below wr.heap.size wr w'') := by
            have := HAT.out p wr (below_then HB1.out HB.out)
            rw [hat] at this
            exact this
          clear hat ho HD
          go_wp2_with fail
          refine HC.out.mono ?_
          rintro e w2 ⟨rfl, hb2⟩
          go_wp2
          go_ret
          exact ⟨rfl, below_then (below_then (below_then HB1.out HB.out) hb2) (below_a1 _ _)⟩
        | some o =>
          obtain ⟨c, x⟩ := o
          obtain ⟨hc40, hc0, hcn⟩ := at_code ho
          have HF : Hid (D = decG s k (p + (1 + wdC c)) (pre ++ [((c : Int), x)])) := by
            rw [Hid, HD.out]; conv => lhs; unfold decG
            rw [if_neg (by omega), ho]
          rw [ho] at hat
          have HC : Hid (Calls Tryd.prog 6 #[.string s, .int .i64 (p : Int)] wr fun e w'' => e = .returned (.tuple #[.agg #[.int .i64 (c : Int), .int .i64 x], .int .i64 ((1 + wdC c : Nat) : Int), .int .i64 0]) ∧ Below wr.heap.size wr w'') := by
            have := HAT.out p wr (below_then HB1.out HB.out)
            rw [hat] at this
            exact this
          have hn1 : 1 ≤ 1 + wdC c := by omega
          have HNX : Hid (e1 = 0 → j < l.length ∧ l.getD j (0, 0) = ((c : Int), x)) := fun h0 => by
            have := dec_next HF.out (by omega) (by omega) (by rw [H1.out.2.1]; exact h0)
            rw [HP.out, H1.out.1] at this
            exact this
          have HLN : Hid ((pre ++ [((c : Int), x)]).length = j + 1) := by rw [Hid, List.length_append, HP.out]; rfl
          clear hat ho HD hc40 hc0 HP
          generalize 1 + wdC c = n at *
          generalize pre ++ [((c : Int), x)] = pre' at *
          have hwp : wrap64 ((p : Int) + (n : Int)) = (p : Int) + (n : Int) := by unfold wrap64; omega
          have hnd : decide ((n : Int) < 1) = false := by simp; omega
          by_cases h0 : e1 = 0
          · subst h0
            obtain ⟨hjl, hjx⟩ := HNX.out rfl
            obtain ⟨y, rfl, hyb, hyc⟩ := HROW.out.resolve_left (by omega)
            obtain ⟨y1, y2⟩ := hyc j hjl
            rw [hjx] at y1 y2
            clear hyc
            go_wp2_with fail
            refine HC.out.mono ?_
            rintro e w2 ⟨rfl, hb2⟩
            have hbb := below_then (below_then HB.out hb2) (below_a1 w2 (.cells #[.int .i64 (c : Int), .int .i64 x] 27))
            have z1 : (w2.alloc (.cells #[.int .i64 (c : Int), .int .i64 x] 27)).cell? (y.add (j * 2)) = some (.int .i64 (c : Int)) := cell_later hbb (by rw [add_block]; exact hyb) y1
            have z2 : (w2.alloc (.cells #[.int .i64 (c : Int), .int .i64 x] 27)).cell? ⟨(y.add (j * 2)).block, (y.add (j * 2)).off + 1, none⟩ = some (.int .i64 x) := cell_later (a := ⟨(y.add (j * 2)).block, (y.add (j * 2)).off + 1, none⟩) hbb (show (y.add (j * 2)).block < _ by rw [add_block]; exact hyb) y2
            have HB2 : Hid (Below w1.heap.size w1 (w2.alloc (.cells #[.int .i64 (c : Int), .int .i64 x] 27))) := hbb
            have hr := heap_alloc_new w2 (.cells #[.int .i64 (c : Int), .int .i64 x] 27)
            have q1 : (w2.alloc (.cells #[.int .i64 (c : Int), .int .i64 x] 27)).cell? ⟨w2.heap.size, 0, none⟩ = some (.int .i64 (c : Int)) := by rw [cell_at hr]; rfl
            have q2 : (w2.alloc (.cells #[.int .i64 (c : Int), .int .i64 x] 27)).cell? ⟨w2.heap.size, 1, none⟩ = some (.int .i64 x) := by rw [cell_at hr]; rfl
            have hge : decide ((l.length : Int) ≤ (j : Int)) = false := by simp; omega
            have hge2 : decide (l.length ≤ j) = false := by simp; omega
            clear hb2 hbb y1 y2 HB hjx hr
            go_wp2_with fail
            generalize w2.alloc (.cells #[.int .i64 (c : Int), .int .i64 x] 27) = x2 at *
            generalize w2.heap.size = O2 at *
            go_quiet (fail)
            go_wp2
            go_roundw
            case rel => exact ⟨p + n, k, j + 1, pre', by omega, by go_num, by go_num, by omega, HLN.out, by omega, HF.out, below_drawn HB2.out _⟩
            case measure => simp [intOf]; omega
          · have he : (e1 == 0) = false := by simp [h0]
            clear HNX
            go_wp2_with fail
            refine HC.out.mono ?_
            rintro e w2 ⟨rfl, hb2⟩
            have HB2 : Hid (Below w1.heap.size w1 (w2.alloc (.cells #[.int .i64 (c : Int), .int .i64 x] 27))) := below_then (below_then HB.out hb2) (below_a1 _ _)
            go_wp2_with fail
            generalize w2.alloc (.cells #[.int .i64 (c : Int), .int .i64 x] 27) = x2 at *
            go_quiet (fail)
            go_wp2
            go_roundw
            case rel => exact ⟨p + n, k, j + 1, pre', by omega, by go_num, by go_num, by omega, HLN.out, by omega, HF.out, below_drawn HB2.out _⟩
            case measure => simp [intOf]; omega
      · obtain rfl : p = s.size := by omega
        have HF : D = (pre, 0, 0) := by rw [HD.out]; unfold decG; rw [if_pos (by omega)]
        rw [HF] at H1
        obtain ⟨rfl, rfl, rfl⟩ := H1.out
        clear HD
        go_wp2
        go_ret
        exact ⟨rfl, below_then HB1.out HB.out⟩
end Go.Proofs.YtfkbpmahedmbhabDoor
