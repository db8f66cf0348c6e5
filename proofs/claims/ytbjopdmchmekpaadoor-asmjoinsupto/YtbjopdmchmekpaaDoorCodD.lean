/- Decode, of the program and of the document. -/
import Derived.Test.YtbjopdmchmekpaaDoorCodS
import Derived.Test.YtbjopdmchmekpaaDoorOpL
import Derived.Laws.AppendOwn
namespace Go.Proofs.YtbjopdmchmekpaaDoor
open Go.ChangeShapes Go.WideShapes Go.ChangeAt Go.RowKit

theorem info_op : (Tryd.prog.info? 53).map (fun i => (i.zero, i.size, i.bytes)) = some (some (.agg #[.int .i64 0, .int .i64 0]), 2, 16) := by kernel_rfl
theorem heap_alloc2_new (w : World) (o1 o2 : Obj) : ((w.alloc o1).alloc o2).heap[w.heap.size + 1]? = some o2 := by
  have := heap_alloc_new (w.alloc o1) o2
  simpa using this

theorem dec_any (s : ByteArray) (hs : s.size ≤ 9223372036854775807) {w : World} (hT : Tab w) : Calls Tryd.prog 19 #[.string s] w fun e w' => ∃ v, e = .returned (.tuple #[v, .int .i64 (decV s).2.1, .int .i64 (decV s).2.2]) ∧ w'.ownsRow w.heap.size 53 2 v (decV s).1.length (opsC (decV s).1) ∧ Below w.heap.size w w' := by
  by_cases hbig : 512 < s.size
  · have e : decV s = ([], 2, 0) := by unfold decV; rw [if_pos hbig]
    rw [e]
    have hd : decide ((512 : Int) < (s.size : Int)) = true := by simp; omega
    go_enter Tryd.func19, Tryd.ntmps19
    go_wp2
    go_ret3
    exact ⟨_, rfl, World.ownsRow_nil _ _ _ _, Below.refl _ _⟩
  · have e : decV s = decG s (s.size + 1) 0 [] := by unfold decV; rw [if_neg hbig]
    have hd : decide ((512 : Int) < (s.size : Int)) = false := by simp; omega
    obtain ⟨i0, hi, hz0, hz1, hz2⟩ := info_parts info_op
    have HAT : Hid (∀ (p : Nat) w', Below w.heap.size w w' → Calls Tryd.prog 22 #[.string s, .int .i64 (p : Int)] w' fun e w'' => e = .returned (ansA (atS s p)) ∧ Below w'.heap.size w' w'') := fun p w' hb => at_any s hs p (hT.later hb)
    have HE : Hid (decV s = decG s (s.size + 1) 0 []) := e
    clear e hT
    go_enter Tryd.func19, Tryd.ntmps19
    go_wp2
    go_loopw [5, 6] (fun v i wr => ∃ (p k : Nat) (l : List (Int × Int)), p ≤ s.size ∧ i = .int .i64 (p : Int) ∧ s.size < p + k ∧ l.length ≤ p ∧ decV s = decG s k p l ∧ wr.ownsRow w.heap.size 53 2 v l.length (opsC l) ∧ Below w.heap.size w wr) (fun _ i _ => s.size - (intOf i).toNat)
    case atStart => exact ⟨0, s.size + 1, [], by omega, rfl, by omega, by simp, HE.out, World.ownsRow_nil _ _ _ _, Below.refl _ _⟩
    case round =>
      obtain ⟨p, k, l, hp, rfl, hk, hlp, hdec, hown, hbel⟩ := hrel
      have HD : Hid (decV s = decG s k p l) := hdec
      have HO : Hid (wr.ownsRow w.heap.size 53 2 u5 l.length (opsC l)) := hown
      have HB : Hid (Below w.heap.size w wr) := hbel
      clear hdec hown hbel
      obtain ⟨k, rfl⟩ : ∃ k', k = k' + 1 := ⟨k - 1, by omega⟩
      by_cases hlt : p < s.size
      · have hpd : decide ((p : Int) < (s.size : Int)) = true := by simp; omega
        have hat : atS s (p : Int) = atV (fr s p) (s.size - p) := by unfold atS; rw [if_neg (by omega), Int.toNat_natCast]
        cases ho : atV (fr s p) (s.size - p) with
        | none =>
          have HF : Hid (decV s = ([], 10, (p : Int))) := by rw [Hid, HD.out]; unfold decG; rw [if_neg (by omega), ho]
          rw [ho] at hat
          have HC : Hid (Calls Tryd.prog 22 #[.string s, .int .i64 (p : Int)] wr fun e w'' => e = .returned (.tuple #[.agg #[.int .i64 0, .int .i64 0], .int .i64 0, .int .i64 10]) ∧ Below wr.heap.size wr w'') := by
            have := HAT.out p wr HB.out
            rw [hat] at this
            exact this
          clear hat ho HD hi hz0 hz1 hz2
          go_wp2_with fail
          refine HC.out.mono ?_
          rintro e w1 ⟨rfl, hb1⟩
          go_wp2
          go_ret3
          rw [HF.out]
          exact ⟨_, rfl, World.ownsRow_nil _ _ _ _, below_then (below_then HB.out hb1) (below_a1 _ _)⟩
        | some o =>
          obtain ⟨c, x⟩ := o
          obtain ⟨hc40, hc0, hcn⟩ := at_code ho
          have HF : Hid (decV s = decG s k (p + (1 + wdC c)) (l ++ [((c : Int), x)])) := by
            rw [Hid, HD.out]; conv => lhs; unfold decG
            rw [if_neg (by omega), ho]
          rw [ho] at hat
          have HC : Hid (Calls Tryd.prog 22 #[.string s, .int .i64 (p : Int)] wr fun e w'' => e = .returned (.tuple #[.agg #[.int .i64 (c : Int), .int .i64 x], .int .i64 ((1 + wdC c : Nat) : Int), .int .i64 0]) ∧ Below wr.heap.size wr w'') := by
            have := HAT.out p wr HB.out
            rw [hat] at this
            exact this
          have HQ : Hid (c ≤ 40) := hc40
          have HSN : Hid (opsC (l ++ [((c : Int), x)]) = opsC l ++ [.int .i64 (c : Int), .int .i64 x]) := opsC_snoc l _
          have HLN : Hid ((l ++ [((c : Int), x)]).length = l.length + 1) := by simp [Hid]
          clear hat ho HD hc40 hc0
          have hn1 : 1 ≤ 1 + wdC c := by omega
          generalize 1 + wdC c = n at *
          generalize l ++ [((c : Int), x)] = l' at *
          generalize l.length = L at *
          have hwp : wrap64 ((p : Int) + (n : Int)) = (p : Int) + (n : Int) := by unfold wrap64; omega
          go_wp2_with fail
          refine HC.out.mono ?_
          rintro e w1 ⟨rfl, hb1⟩
          have HB1 : Hid (Below w.heap.size w w1) := below_then HB.out hb1
          have HO1 : Hid (w1.ownsRow w.heap.size 53 2 u5 L (opsC l)) := own_keep HO.out (Keep.of_below hb1 []) (by simp)
          have hsz1 : w.heap.size ≤ w1.heap.size := HB1.out.size
          clear hb1 HC HB HO
          go_wp2_with (at_builtin; refine wpList_append_own _ rfl _ _ 28 rfl w.heap.size 53 i0 _ 2 16 Tryd.underlying28 hi hz0 hz1 hz2 rfl (by decide) _ _ _ rfl ((HO1.out.alloc _).alloc _) ⟨w1.heap.size + 1, 0, none⟩ 1 1 [.int .i64 (c : Int), .int .i64 x] rfl rfl ?c1 ?c2 ?c3 ?c4 ?c5 ?_)
          case c1 => exact World.news_of_block (cs := #[.int .i64 (c : Int), .int .i64 x]) (t := 53) (fr := (0, 0)) (heap_alloc2_new _ _ _)
          case c2 => intro u hu; simp at hu; rcases hu with rfl | rfl <;> rfl
          case c3 => unfold maxLen; omega
          case c4 => omega
          case c5 => simp; omega
          intro v' w2 hown' hgrow _
          have HO2 : Hid (w2.ownsRow w.heap.size 53 2 v' l'.length (opsC l')) := by
            rw [Hid, HLN.out, HSN.out]; exact hown'
          have HB2 : Hid (Below w.heap.size w w2) := (below_alloc (below_alloc HB1.out _) _).grown hgrow (by simp; omega) (fun b hb => by have := own_block HO1.out b hb; omega)
          clear hown' hgrow
          go_wp2
          go_roundw
          case rel => exact ⟨p + n, k, l', by omega, by go_num, by omega, by rw [HLN.out]; omega, HF.out, HO2.out, HB2.out⟩
          case measure => simp [intOf]; omega
      · obtain rfl : p = s.size := by omega
        have HF : Hid (decV s = (l, 0, 0)) := by rw [Hid, HD.out]; unfold decG; rw [if_pos (by omega)]
        clear HD hi hz0 hz1 hz2
        go_wp2
        go_ret3
        rw [HF.out]
        exact ⟨_, rfl, HO.out, HB.out⟩

theorem rdec_any (s : ByteArray) (hs : s.size ≤ 9223372036854775807) {w : World} : Calls Tryd.prog 10 #[.string s] w fun e w' => ∃ v, e = .returned (.tuple #[v, .int .i64 (decV s).2.1, .int .i64 (decV s).2.2]) ∧ w'.ownsRow w.heap.size 53 2 v (decV s).1.length (opsC (decV s).1) ∧ Below w.heap.size w w' := by
  by_cases hbig : 512 < s.size
  · have e : decV s = ([], 2, 0) := by unfold decV; rw [if_pos hbig]
    rw [e]
    have hd : decide ((512 : Int) < (s.size : Int)) = true := by simp; omega
    go_enter Tryd.func10, Tryd.ntmps10
    go_wp2
    go_ret3
    exact ⟨_, rfl, World.ownsRow_nil _ _ _ _, Below.refl _ _⟩
  · have e : decV s = decG s (s.size + 1) 0 [] := by unfold decV; rw [if_neg hbig]
    have hd : decide ((512 : Int) < (s.size : Int)) = false := by simp; omega
    obtain ⟨i0, hi, hz0, hz1, hz2⟩ := info_parts info_op
    have HAT : Hid (∀ (p : Nat) w', Below w.heap.size w w' → Calls Tryd.prog 24 #[.string s, .int .i64 (p : Int)] w' fun e w'' => e = .returned (ansA (atS s p)) ∧ Below w'.heap.size w' w'') := fun p w' _ => rat_any s hs p w'
    have HE : Hid (decV s = decG s (s.size + 1) 0 []) := e
    clear e
    go_enter Tryd.func10, Tryd.ntmps10
    go_wp2
    go_loopw [5, 6] (fun v i wr => ∃ (p k : Nat) (l : List (Int × Int)), p ≤ s.size ∧ i = .int .i64 (p : Int) ∧ s.size < p + k ∧ l.length ≤ p ∧ decV s = decG s k p l ∧ wr.ownsRow w.heap.size 53 2 v l.length (opsC l) ∧ Below w.heap.size w wr) (fun _ i _ => s.size - (intOf i).toNat)
    case atStart => exact ⟨0, s.size + 1, [], by omega, rfl, by omega, by simp, HE.out, World.ownsRow_nil _ _ _ _, Below.refl _ _⟩
    case round =>
      obtain ⟨p, k, l, hp, rfl, hk, hlp, hdec, hown, hbel⟩ := hrel
      have HD : Hid (decV s = decG s k p l) := hdec
      have HO : Hid (wr.ownsRow w.heap.size 53 2 u5 l.length (opsC l)) := hown
      have HB : Hid (Below w.heap.size w wr) := hbel
      clear hdec hown hbel
      obtain ⟨k, rfl⟩ : ∃ k', k = k' + 1 := ⟨k - 1, by omega⟩
      by_cases hlt : p < s.size
      · have hpd : decide ((p : Int) < (s.size : Int)) = true := by simp; omega
        have hat : atS s (p : Int) = atV (fr s p) (s.size - p) := by unfold atS; rw [if_neg (by omega), Int.toNat_natCast]
        cases ho : atV (fr s p) (s.size - p) with
        | none =>
          have HF : Hid (decV s = ([], 10, (p : Int))) := by rw [Hid, HD.out]; unfold decG; rw [if_neg (by omega), ho]
          rw [ho] at hat
          have HC : Hid (Calls Tryd.prog 24 #[.string s, .int .i64 (p : Int)] wr fun e w'' => e = .returned (.tuple #[.agg #[.int .i64 0, .int .i64 0], .int .i64 0, .int .i64 10]) ∧ Below wr.heap.size wr w'') := by
            have := HAT.out p wr HB.out
            rw [hat] at this
            exact this
          clear hat ho HD hi hz0 hz1 hz2
          go_wp2_with fail
          refine HC.out.mono ?_
          rintro e w1 ⟨rfl, hb1⟩
          go_wp2
          go_ret3
          rw [HF.out]
          exact ⟨_, rfl, World.ownsRow_nil _ _ _ _, below_then (below_then HB.out hb1) (below_a1 _ _)⟩
        | some o =>
          obtain ⟨c, x⟩ := o
          obtain ⟨hc40, hc0, hcn⟩ := at_code ho
          have HF : Hid (decV s = decG s k (p + (1 + wdC c)) (l ++ [((c : Int), x)])) := by
            rw [Hid, HD.out]; conv => lhs; unfold decG
            rw [if_neg (by omega), ho]
          rw [ho] at hat
          have HC : Hid (Calls Tryd.prog 24 #[.string s, .int .i64 (p : Int)] wr fun e w'' => e = .returned (.tuple #[.agg #[.int .i64 (c : Int), .int .i64 x], .int .i64 ((1 + wdC c : Nat) : Int), .int .i64 0]) ∧ Below wr.heap.size wr w'') := by
            have := HAT.out p wr HB.out
            rw [hat] at this
            exact this
          have HQ : Hid (c ≤ 40) := hc40
          have HSN : Hid (opsC (l ++ [((c : Int), x)]) = opsC l ++ [.int .i64 (c : Int), .int .i64 x]) := opsC_snoc l _
          have HLN : Hid ((l ++ [((c : Int), x)]).length = l.length + 1) := by simp [Hid]
          clear hat ho HD hc40 hc0
          have hn1 : 1 ≤ 1 + wdC c := by omega
          generalize 1 + wdC c = n at *
          generalize l ++ [((c : Int), x)] = l' at *
          generalize l.length = L at *
          have hwp : wrap64 ((p : Int) + (n : Int)) = (p : Int) + (n : Int) := by unfold wrap64; omega
          go_wp2_with fail
          refine HC.out.mono ?_
          rintro e w1 ⟨rfl, hb1⟩
          have HB1 : Hid (Below w.heap.size w w1) := below_then HB.out hb1
          have HO1 : Hid (w1.ownsRow w.heap.size 53 2 u5 L (opsC l)) := own_keep HO.out (Keep.of_below hb1 []) (by simp)
          have hsz1 : w.heap.size ≤ w1.heap.size := HB1.out.size
          clear hb1 HC HB HO
          go_wp2_with (at_builtin; refine wpList_append_own _ rfl _ _ 28 rfl w.heap.size 53 i0 _ 2 16 Tryd.underlying28 hi hz0 hz1 hz2 rfl (by decide) _ _ _ rfl ((HO1.out.alloc _).alloc _) ⟨w1.heap.size + 1, 0, none⟩ 1 1 [.int .i64 (c : Int), .int .i64 x] rfl rfl ?c1 ?c2 ?c3 ?c4 ?c5 ?_)
          case c1 => exact World.news_of_block (cs := #[.int .i64 (c : Int), .int .i64 x]) (t := 53) (fr := (0, 0)) (heap_alloc2_new _ _ _)
          case c2 => intro u hu; simp at hu; rcases hu with rfl | rfl <;> rfl
          case c3 => unfold maxLen; omega
          case c4 => omega
          case c5 => simp; omega
          intro v' w2 hown' hgrow _
          have HO2 : Hid (w2.ownsRow w.heap.size 53 2 v' l'.length (opsC l')) := by
            rw [Hid, HLN.out, HSN.out]; exact hown'
          have HB2 : Hid (Below w.heap.size w w2) := (below_alloc (below_alloc HB1.out _) _).grown hgrow (by simp; omega) (fun b hb => by have := own_block HO1.out b hb; omega)
          clear hown' hgrow
          go_wp2
          go_roundw
          case rel => exact ⟨p + n, k, l', by omega, by go_num, by omega, by rw [HLN.out]; omega, HF.out, HO2.out, HB2.out⟩
          case measure => simp [intOf]; omega
      · obtain rfl : p = s.size := by omega
        have HF : Hid (decV s = (l, 0, 0)) := by rw [Hid, HD.out]; unfold decG; rw [if_pos (by omega)]
        clear HD hi hz0 hz1 hz2
        go_wp2
        go_ret3
        rw [HF.out]
        exact ⟨_, rfl, HO.out, HB.out⟩
end Go.Proofs.YtbjopdmchmekpaaDoor
