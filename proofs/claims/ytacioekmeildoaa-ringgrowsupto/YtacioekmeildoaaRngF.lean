/- The entries one by one: what the function gives whom it is asked by. -/
import Derived.Test.YtacioekmeildoaaRngE
namespace Go.Proofs.Ytacioekmeildoaa
open Go.ChangeShapes Go.WideShapes Go.ChangeAt Go.RowKit Go.Shelf
attribute [local go_sem] Oper.semAt_some

theorem take_map_range (f : Nat → En) (m k : Nat) (h : k < m) : ((List.range m).map f).take (k + 1) = ((List.range m).map f).take k ++ [f k] := by
  rw [List.take_add_one]; simp [h]

set_option maxRecDepth 100000 in
set_option maxHeartbeats 2000000 in
theorem each1_in (n : Nat) (hn : 2 ≤ n) (l Bn n₀ X base : Nat) {p : Value} {c r : Nat} {L : List Ac} {F : List Nat} (hr0 : 1 ≤ r) (hr : r ≤ 16) (hN : wordOf L ⟨1, 0, 0⟩ ≤ 9223372036854775807) (hBn : Bn < n₀) (hBX : Bn ≠ X) (hF : ∀ b ∈ F, b < n₀ ∧ b ≠ X) (J Jx : List En → World → Prop) (W : World) (hn₀ : n₀ ≤ W.heap.size)
    (hA : AbidesFrom W.heap.size J)
    (hY : ∀ pre x W1, J pre W1 → pre.length < manyV (wordOf L) r → YieldAt Fence.wide (n - 1) Try.prog l #[.agg (enC x)] W1 fun e W' =>
      (e = .returned (.bool true) ∧ J (pre ++ [x]) W' ∧ Save n₀ X W1 W') ∨ (e = .returned (.bool false) ∧ Jx (pre ++ [x]) W'))
    (hBc : W.cell? ⟨Bn, 0, none⟩ = some p) (hM : MemAt W base p c r L F) (h0 : J [] W) :
    CallsIn Fence.wide n Try.prog 49 #[.func (.yield l) #[] #[], .pointer (some ⟨Bn, 0, none⟩)] W fun e W' => (∃ v, e = .returned v) ∧
      ((∃ ys, ys = entsV (wordOf L) r ∧ J ys W') ∨ (∃ pre, pre <+: entsV (wordOf L) r ∧ Jx pre W')) := by
  have HSP : Hid (Calls Try.prog 40 #[p] W fun e w' => e = .returned (.tuple #[.int .i64 (beforeV (wordOf L) r), .int .i64 (lastV (wordOf L))]) ∧ Below W.heap.size W w') := span_any hM hr hN
  have HEN : Hid (∀ (w' : World) (st : Int), Save n₀ X W w' → Calls Try.prog 50 #[p, .int .i64 st] w' fun e w'' => e = .returned (.agg (enC (entryV (wordOf L) r st))) ∧ Below w'.heap.size w' w'') := fun w' st hs => entryOf_any (hM.save hs hF) hr0 hr st
  have HBC : Hid (∀ w', Save n₀ X W w' → w'.cell? ⟨Bn, 0, none⟩ = some p) := fun w' hs => by rw [← hBc]; unfold World.cell?; rw [hs.block Bn hBn hBX]
  have HJ : Hid (∀ pre W1 W2, J pre W1 → Below W1.heap.size W1 W2 → J pre W2) := fun pre W1 W2 hj hb => hA pre W1 W2 none hj (grown_of_below hb) (fun r e => by cases e)
  obtain ⟨M, H, S, C, v, hM⟩ := hM
  obtain rfl := hM.p
  clear hM
  have hlast : lastV (wordOf L) ≤ 9223372036854775807 := by unfold lastV; omega
  have hbef : 0 ≤ beforeV (wordOf L) r ∧ beforeV (wordOf L) r ≤ lastV (wordOf L) := by unfold beforeV lastV; omega
  have hmany : (manyV (wordOf L) r : Int) = lastV (wordOf L) - beforeV (wordOf L) r := by unfold manyV; omega
  have HE : Hid (∀ k, k < manyV (wordOf L) r → (entsV (wordOf L) r).take (k + 1) = (entsV (wordOf L) r).take k ++ [entryV (wordOf L) r (beforeV (wordOf L) r + 1 + k)]) := fun k hk => take_map_range _ _ k hk
  have HEL : Hid ((entsV (wordOf L) r).length = manyV (wordOf L) r) := entsV_len _ _
  generalize entsV (wordOf L) r = es at *
  generalize lastV (wordOf L) = la at *
  generalize beforeV (wordOf L) r = be at *
  generalize manyV (wordOf L) r = mm at *
  refine callsIn_of_wp Try.func49 rfl trivial ?_ rfl
  simp only [Try.ntmps49, List.size_toArray, List.length_cons, List.length_nil, Nat.reduceAdd, Nat.reduceSub, Array.replicate_succ, Array.replicate_zero, List.push_toArray, List.append_toArray, List.nil_append, List.cons_append]
  have h1n : 1 ≤ n := by omega
  gi_wp2_with (refine ⟨trivial, ?_⟩; gi_at_call 40; refine (callsIn_wide.2 HSP.out).mono ?_; rintro e w1 ⟨rfl, hb1⟩)
  have HB1 : Hid (Below W.heap.size W w1) := hb1
  have HS1 : Hid (Save n₀ X W w1) := Save.of_below hb1 hn₀
  have HJ1 : Hid (J [] w1) := HJ.out _ _ _ h0 hb1
  clear hb1 h0 HSP
  have hwr : wrap64 (la - be) = (mm : Int) := by unfold wrap64; omega
  gi_loopw [14] (fun i wr => ∃ k : Nat, k ≤ mm ∧ i = .int .i64 k ∧ Save n₀ X W wr ∧ J (es.take k) wr) (fun i _ => mm - (intOf i).toNat)
  case atStart => exact ⟨0, by omega, rfl, HS1.out, by simpa using HJ1.out⟩
  case round =>
    obtain ⟨k, hk, rfl, hs, hj⟩ := hrel
    have HS : Hid (Save n₀ X W wr) := hs
    have HK : Hid (J (es.take k) wr) := hj
    clear hs hj
    by_cases hlt : k < mm
    · have hd : decide ((k : Int) < (mm : Int)) = true := by simp; omega
      have hcb := HBC.out wr HS.out
      have hw1 : wrap64 (be + 1) = be + 1 := by unfold wrap64; omega
      have hw2 : wrap64 (be + 1 + (k : Int)) = be + 1 + (k : Int) := by unfold wrap64; omega
      have HEN2 : Hid (Calls Try.prog 50 #[.pointer (some ⟨M, 0, none⟩), .int .i64 (be + 1 + (k : Int))] wr fun e w'' => e = .returned (.agg (enC (entryV (wordOf L) r (be + 1 + (k : Int))))) ∧ Below wr.heap.size wr w'') := HEN.out wr _ HS.out
      have HEK := HE.out k hlt
      have HEK2 : Hid (es.take (k + 1) = es.take k ++ [entryV (wordOf L) r (be + 1 + (k : Int))]) := HEK
      clear HEK
      generalize entryV (wordOf L) r (be + 1 + (k : Int)) = x at *
      have HYW : Hid (∀ w2, Below wr.heap.size wr w2 → YieldAt Fence.wide (n - 1) Try.prog l #[.agg (enC x)] w2 fun e W' => (e = .returned (.bool true) ∧ J (es.take k ++ [x]) W' ∧ Save n₀ X w2 W') ∨ (e = .returned (.bool false) ∧ Jx (es.take k ++ [x]) W')) := fun w2 hb => hY _ _ _ (HJ.out _ _ _ HK.out hb) (by have := HEL.out; simp; omega)
      generalize enC x = ce at *
      gi_wp2_with (refine ⟨trivial, ?_⟩; gi_at_call 50; refine (callsIn_wide.2 HEN2.out).mono ?_; rintro e w2 ⟨rfl, hb2⟩; obtain ⟨fn, tmps, assign, body, hy, hR⟩ := HYW.out w2 hb2)
      have HS2 : Hid (Save n₀ X W w2) := HS.out.trans (Save.of_below hb2 (Nat.le_trans hn₀ HS.out.size))
      clear hb2 hy hcb
      refine hR.mono ?_
      rintro e W3 (⟨rfl, hJ3, hk3⟩ | ⟨rfl, hJx3⟩)
      · have HJ3 : Hid (J (es.take (k + 1)) W3) := by rw [Hid, HEK2.out]; exact hJ3
        have HS3 : Hid (Save n₀ X W W3) := HS2.out.trans hk3
        clear hJ3 hk3 hR
        gi_wp2
        go_roundw
        case rel => exact ⟨k + 1, by omega, by go_num, HS3.out, HJ3.out⟩
        case measure => simp [intOf]; omega
      · have HJ3 : Hid (Jx (es.take (k + 1)) W3) := by rw [Hid, HEK2.out]; exact hJx3
        clear hJx3 hR
        gi_wp2
        refine bodyPost_ret (results_none rfl _ _ _) rfl ?_
        exact ⟨⟨_, rfl⟩, .inr ⟨_, List.take_prefix _ _, HJ3.out⟩⟩
    · have e : k = mm := by omega
      subst e
      have hj : J es wr := by have := HK.out; rwa [List.take_of_length_le (by rw [HEL.out]; exact Nat.le_refl _)] at this
      have HJE : Hid (J es wr) := hj
      clear hj
      gi_wp2
      go_end0
      exact ⟨⟨_, rfl⟩, .inl ⟨_, rfl, HJE.out⟩⟩

/-- What a range over the entries asks of who goes over them. -/
theorem each_stops (n : Nat) (hn : 2 ≤ n) (Bn n₀ X base : Nat) {p : Value} {c r : Nat} {L : List Ac} {F : List Nat} (hr0 : 1 ≤ r) (hr : r ≤ 16) (hN : wordOf L ⟨1, 0, 0⟩ ≤ 9223372036854775807) (hBn : Bn < n₀) (hBX : Bn ≠ X) (hF : ∀ b ∈ F, b < n₀ ∧ b ≠ X) (w : World) (hn₀ : n₀ ≤ w.heap.size)
    (hBc : w.cell? ⟨Bn, 0, none⟩ = some p) (hM : MemAt w base p c r L F) :
    SeqStopsK Fence.wide n Try.prog 49 #[.pointer (some ⟨Bn, 0, none⟩)] (fun x : En => #[Value.agg (enC x)]) (Save n₀ X) (fun ys => ys = entsV (wordOf L) r) (fun pre => pre <+: entsV (wordOf L) r) (manyV (wordOf L) r) w := fun l J Jx W hW hJ _ hY h0 =>
  each1_in n hn l Bn n₀ X base hr0 hr hN hBn hBX hF J Jx W (Nat.le_trans hn₀ hW.size) hJ hY ((hW.cell (p := ⟨Bn, 0, none⟩) (Nat.lt_of_lt_of_le hBn hn₀)).trans hBc) (hM.below hW) h0
end Go.Proofs.Ytacioekmeildoaa
