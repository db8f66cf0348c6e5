/- carouselgrow: Pick and fit. -/
import Derived.Test.YtfbbcjlbelnfaaaGroM
import Derived.Test.YtfbbcjlbelnfaaaJSigRSigF
import Derived.Test.YtfbbcjlbelnfaaaAns
import Derived.Test.YtfbbcjlbelnfaaaJRefCMemN
namespace Go.Proofs.Ytfbbcjlbelnfaaa
open Go.ChangeShapes Go.WideShapes Go.ChangeAt Go.RowKit
attribute [local go_sem ↓] Go.wp_at_zero Go.wp_at_succ

theorem gpick_any (x n : Int) (h0 : 0 < n) (h1 : n ≤ 1024) (w : World) : Calls Try.prog 20 #[.int .i64 x, .int .i64 n] w fun e w' => e = .returned (.int .i64 (x % n)) ∧ w' = w := by
  by_cases ht : x.tmod n < 0
  · have ⟨_, _, e⟩ := tmod_low x n (by omega) ht
    have hm1 := Int.emod_nonneg x (show n ≠ 0 by omega)
    have hm2 := Int.emod_lt_of_pos x (show 0 < n by omega)
    have HE : Hid (wrap64 (x.tmod n + n) = x % n) := by unfold wrap64; rw [Hid, e]; omega
    have hd : decide (x.tmod n < 0) = true := decide_eq_true ht
    have hz : ¬ n = 0 := by omega
    rw [← HE.out]
    clear e hm1 hm2 HE ht h0 h1
    go_enter Try.func20, Try.ntmps20
    go_wp2
    go_ret
    exact ⟨rfl, rfl⟩
  · have e := tmod_high x n (by omega) (by omega)
    have hd : decide (x.tmod n < 0) = false := decide_eq_false ht
    have hz : ¬ n = 0 := by omega
    rw [← e]
    clear e ht h0 h1
    go_enter Try.func20, Try.ntmps20
    go_wp2
    go_ret
    exact ⟨rfl, rfl⟩
/-- A list of writes lies behind a slice. -/
def WLst (w : World) (v : Value) (S : List Wt) : Prop := ∃ a cap, v = .slice a S.length cap ∧ S.length ≤ 1048576 ∧ (S = [] ∨ ∃ x, a = some x ∧ x.block < w.heap.size ∧ ∀ i, i < S.length → w.cell? (x.add (i * 2)) = some (.int .i64 (S.getD i noWt).c) ∧ w.cell? ((x.add (i * 2)).add 1) = some (.int .i64 (S.getD i noWt).v))
theorem WLst.later {w w' : World} {v : Value} {S : List Wt} {B : Nat} (h : WLst w v S) (hb : Below B w w') (hB : B = w.heap.size) : WLst w' v S := by
  subst hB
  obtain ⟨a, cap, hv, hm, h⟩ := h
  refine ⟨a, cap, hv, hm, ?_⟩
  rcases h with h | ⟨x, h1, h2, h3⟩
  · exact Or.inl h
  · exact Or.inr ⟨x, h1, Nat.lt_of_lt_of_le h2 hb.size, fun i hi => ⟨cell_later hb (by rw [add_block]; exact h2) (h3 i hi).1, cell_later hb (by rw [add_block, add_block]; exact h2) (h3 i hi).2⟩⟩
theorem info_wr : (Try.prog.info? 117).map (fun i => (i.zero, i.size, i.bytes)) = some (some (.agg #[.int .i64 0, .int .i64 0]), 2, 16) := by kernel_rfl
theorem fitW_snoc (S : List Wt) (c : Int) (q : Nat) (hq : q < S.length) (h4 : q < 4) : fitW (S.take (q + 1)) c = fitW (S.take q) c ++ [⟨(S.getD q noWt).c % c, (S.getD q noWt).v⟩] := by
  unfold fitW
  rw [List.take_take, List.take_take, show min 4 (q + 1) = q + 1 by omega, show min 4 q = q by omega, List.take_add_one, List.map_append]
  congr 1
  simp [hq]
theorem fitW_take (S : List Wt) (c : Int) (q : Nat) (h : q = S.length ∨ q = 4) : fitW (S.take q) c = fitW S c := by
  unfold fitW
  rw [List.take_take]
  rcases h with rfl | rfl
  · congr 1
    by_cases e : 4 ≤ S.length
    · rw [show min 4 S.length = 4 by omega]
    · rw [show min 4 S.length = S.length by omega, List.take_length, List.take_of_length_le (by omega)]
  · rfl

set_option maxRecDepth 10000 in
set_option maxHeartbeats 1600000 in
theorem fit_any {w : World} {v : Value} {S : List Wt} (h : WLst w v S) (c : Nat) (hc : 1 ≤ c) (hc2 : c ≤ 1024) :
    Calls Try.prog 40 #[v, .int .i64 (c : Int)] w fun e w' => ∃ u, e = .returned u ∧ w'.ownsRow w.heap.size 117 2 u (fitW S c).length (wtC (fitW S c)) ∧ Below w.heap.size w w' := by
  obtain ⟨i0, hi, hz0, hz1, hz2⟩ := info_parts info_wr
  obtain ⟨a, cap, rfl, hbig, hl⟩ := h
  have HC : Hid (∀ q, q < S.length → ∃ x, a = some x ∧ x.block < w.heap.size ∧ w.cell? (x.add (q * 2)) = some (.int .i64 (S.getD q noWt).c) ∧ w.cell? ((x.add (q * 2)).add 1) = some (.int .i64 (S.getD q noWt).v)) := by
    intro q hq
    rcases hl with rfl | ⟨x, hx, hxb, hcc⟩
    · exact absurd hq (by simp)
    · exact ⟨x, hx, hxb, hcc q hq⟩
  have HP : Hid (∀ x w, Calls Try.prog 20 #[.int .i64 x, .int .i64 (c : Int)] w fun e w' => e = .returned (.int .i64 (x % (c : Int))) ∧ w' = w) := fun x w => gpick_any x c (by omega) (by omega) w
  have HSN : Hid (∀ q, q < S.length → q < 4 → fitW (S.take (q + 1)) c = fitW (S.take q) c ++ [⟨(S.getD q noWt).c % c, (S.getD q noWt).v⟩]) := fun q h1 h2 => fitW_snoc S c q h1 h2
  have HTK : Hid (∀ q, q = S.length ∨ q = 4 → fitW (S.take q) c = fitW S c) := fun q h => fitW_take S c q h
  have HLN : Hid (∀ q, (fitW (S.take q) c).length ≤ 4) := fun q => fitW_len _ _
  clear hl
  generalize hn : S.length = n at *
  clear hn
  go_enter Try.func40, Try.ntmps40
  go_wp2
  go_loopw [5, 6] (fun ov iv wr => ∃ q : Nat, q ≤ n ∧ q ≤ 4 ∧ iv = .int .i64 q ∧ wr.ownsRow w.heap.size 117 2 ov (fitW (S.take q) c).length (wtC (fitW (S.take q) c)) ∧ Below w.heap.size w wr) (fun _ iv _ => 4 - (intOf iv).toNat)
  case atStart => exact ⟨0, Nat.zero_le _, by omega, rfl, by simpa [fitW, wtC] using World.ownsRow_nil _ _ _ _, Below.refl _ _⟩
  case round =>
    obtain ⟨q, hq, hq4, rfl, how, hb⟩ := hrel
    have HO : Hid (wr.ownsRow w.heap.size 117 2 u5 (fitW (S.take q) c).length (wtC (fitW (S.take q) c))) := how
    have HB : Hid (Below w.heap.size w wr) := hb
    clear how hb
    by_cases hlt : q < n ∧ q < 4
    · obtain ⟨hlt, hlt4⟩ := hlt
      have d1 : decide ((q : Int) < (n : Int)) = true := by simp; omega
      have d2 : decide ((q : Int) < 4) = true := by simp; omega
      have hx1 : (q : Int) < (n : Int) := by omega
      obtain ⟨x, rfl, hxb, c0, c1⟩ := HC.out q hlt
      have c0' := cell_later HB.out (by rw [add_block]; exact hxb) c0
      have c1' := cell_later HB.out (by rw [add_block, add_block]; exact hxb) c1
      rw [add_pos' _ _ (by decide)] at c1'
      have HS2 := HSN.out q hlt hlt4
      have hl4 := HLN.out q
      clear c0 c1
      generalize S.getD q noWt = wt at *
      obtain ⟨wc, wv⟩ := wt
      simp only at c0' c1' HS2
      have HPK : Hid (∀ w, Calls Try.prog 20 #[.int .i64 wc, .int .i64 (c : Int)] w fun e w' => e = .returned (.int .i64 (wc % (c : Int))) ∧ w' = w) := HP.out wc
      obtain ⟨av, cv, rfl⟩ := own_slice HO.out
      have HAP : Hid (wtC (fitW (S.take q) c ++ [⟨wc % c, wv⟩]) = wtC (fitW (S.take q) c) ++ [.int .i64 (wc % c), .int .i64 wv]) := by rw [Hid, wtC_app]; rfl
      have hlen : (wtC (fitW (S.take q) c)).length = (fitW (S.take q) c).length * 2 := wtC_len _
      generalize hK : fitW (S.take q) c = K at *
      generalize hm : K.length = m at *
      have HKM : Hid (K.length = m) := hm
      have hsz := HB.out.size
      generalize wc % (c : Int) = wc' at *
      clear hK hm
      go_wp2_with fail
      go_region_law ((first | (refine step_lies_wide _ (by rfl) _ _ _ (by rfl) w.heap.size 117 i0 _ 2 16 Try.underlying73 hi hz0 hz1 hz2 rfl (by omega) (.slice av m cv) m (wtC K) (by rfl) ((HO.out.alloc _).drew) ⟨wr.heap.size, 0, none⟩ 1 1 [.int .i64 wc', .int .i64 wv] (by rfl) (by rfl) (World.news_of_block (cs := #[.int .i64 wc', .int .i64 wv]) (t := 117) (fr := (0, 0)) (heap_alloc_new wr _)) (by simp [Value.oneCell']) (by omega) (by unfold maxLen; omega) (by omega) (by simp; omega) (wr.heap.size + 1) (by simp) ?_; intro gg cap' w3 hown1 hgrow hat hlt2) | (go_simp; go_at_call 20; refine (HPK.out _).mono ?_; rintro e w' ⟨rfl, rfl⟩)))
      all_goals
        have HO3 : Hid (w3.ownsRow w.heap.size 117 2 (.slice (some ⟨gg, 0, none⟩) (m + 1) cap') (K ++ [Wt.mk wc' wv]).length (wtC (K ++ [Wt.mk wc' wv]))) := by
          rw [Hid, HAP.out, List.length_append, HKM.out]; exact hown1
        have HB3 : Hid (Below w.heap.size w w3) := (below_drawn (below_alloc HB.out _) 1).grown hgrow (by simp; omega) (fun b hb => (own_block HO.out b hb).1)
        clear hown1 hgrow hat hlt2
        go_wp2
        go_roundw
        case rel => exact ⟨q + 1, by omega, by omega, by go_num, by rw [HS2]; exact HO3.out, HB3.out⟩
        case measure => simp [intOf]; omega
    · have hend : q = n ∨ q = 4 := by omega
      have HE := HTK.out q hend
      rw [HE] at HO
      obtain ⟨av, cv, rfl⟩ := own_slice HO.out
      by_cases hlt1 : q < n
      · have d1 : decide ((q : Int) < (n : Int)) = true := by simp; omega
        have d2 : decide ((q : Int) < 4) = false := by simp; omega
        have HO2 : Hid (∃ m, (fitW S c).length = m ∧ wr.ownsRow w.heap.size 117 2 (.slice av m cv) m (wtC (fitW S c))) := ⟨_, rfl, HO.out⟩
        obtain ⟨m, hm, ho2⟩ := HO2.out
        rw [hm]
        have HO3 : Hid (wr.ownsRow w.heap.size 117 2 (.slice av m cv) m (wtC (fitW S c))) := ho2
        have HKM : Hid ((fitW S c).length = m) := hm
        clear HO HO2 ho2 hm
        go_wp2
        go_ret
        exact ⟨_, rfl, by rw [HKM.out]; exact HO3.out, HB.out⟩
      · have d1 : decide ((q : Int) < (n : Int)) = false := by simp; omega
        have HO2 : Hid (∃ m, (fitW S c).length = m ∧ wr.ownsRow w.heap.size 117 2 (.slice av m cv) m (wtC (fitW S c))) := ⟨_, rfl, HO.out⟩
        obtain ⟨m, hm, ho2⟩ := HO2.out
        rw [hm]
        have HO3 : Hid (wr.ownsRow w.heap.size 117 2 (.slice av m cv) m (wtC (fitW S c))) := ho2
        have HKM : Hid ((fitW S c).length = m) := hm
        clear HO HO2 ho2 hm
        go_wp2
        go_ret
        exact ⟨_, rfl, by rw [HKM.out]; exact HO3.out, HB.out⟩
end Go.Proofs.Ytfbbcjlbelnfaaa
