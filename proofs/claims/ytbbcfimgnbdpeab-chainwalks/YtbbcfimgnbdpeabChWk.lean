/- ChainWalks, walked: from the least key on, next by next. -/
import Derived.Test.YtbbcfimgnbdpeabChMe
import Derived.Test.YtbbcfimgnbdpeabCoB
import Derived.Deep.LoopGhost
import Derived.Deep.CutBlock
import Derived.Deep.DeepCutAuto
namespace Go.Proofs.Ytbbcfimgnbdpeab.Ch
open Go.ChangeShapes Go.WideShapes Go.ChangeAt Go.RowKit
attribute [local go_sem ↓] Go.wp_at_zero Go.wp_at_succ

/-- The cells, and the keys that are meant, as they lie. -/
structure WM (w0 wr : World) (n gc : Nat) (C : List Int) (vw : Value) (K : List Int) : Prop where
  bel : Below w0.heap.size w0 wr
  rc : wr.ownsRow w0.heap.size 2 1 (.slice (some ⟨gc, 0, none⟩) (2 * n + 3) (2 * n + 3)) (2 * n + 3) (numC C)
  nl : Nl wr vw K
  ap : ∀ b m c, vw = .slice (some b) m c → b.block ≠ gc
theorem WM.later {w0 wr w' : World} {n gc : Nat} {C : List Int} {vw : Value} {K : List Int} (h : WM w0 wr n gc C vw K) (hb : Below wr.heap.size wr w') : WM w0 w' n gc C vw K :=
  ⟨h.bel.trans (hb.mono h.bel.size), own_keep h.rc (Keep.of_below hb []) (by simp), h.nl.later hb (Nat.le_refl _), h.ap⟩
theorem WM.done {w0 wr w4 : World} {n gc : Nat} {C C' : List Int} {vw : Value} {K : List Int} (h : WM w0 wr n gc C vw K) (hk : Keep [gc] wr w4) (hr : w4.ownsRow w0.heap.size 2 1 (.slice (some ⟨gc, 0, none⟩) (2 * n + 3) (2 * n + 3)) (2 * n + 3) (numC C')) : WM w0 w4 n gc C' vw K :=
  ⟨h.bel.trans (hk.below h.bel.size (by simpa using (own_block h.rc gc rfl).1)), hr, h.nl.keep hk (fun a m c e => by simpa using h.ap a m c e), h.ap⟩
theorem WM.mean {w0 wr w' : World} {n gc : Nat} {C : List Int} {vw v' : Value} {K K' : List Int} (h : WM w0 wr n gc C vw K) (hb : Below wr.heap.size wr w') (hn : Nl w' v' K') (hv : v' = vw ∨ ∀ b m c, v' = .slice (some b) m c → wr.heap.size ≤ b.block) : WM w0 w' n gc C v' K' := by
  refine ⟨h.bel.trans (hb.mono h.bel.size), own_keep h.rc (Keep.of_below hb []) (by simp), hn, fun b m c e => ?_⟩
  rcases hv with rfl | hv
  · exact h.ap b m c e
  · have h1 := hv b m c e
    have h2 := (own_block h.rc gc rfl).2
    omega
theorem ry_of {m : Nat} {c : Int} {n : Nat} (hm : m ≤ 16) (h : arV c = n) : rightV 0 m c n = true := by
  unfold rightV takesV
  simp only [Bool.and_eq_true, decide_eq_true_eq]
  omega
theorem Nl.one {w : World} {x : Addr} {a : Int} (h0 : w.cell? x = some (.int .i64 a)) (ha : Sx a) (hx : x.block < w.heap.size) : Nl w (.slice (some x) 1 1) [a] := by
  refine ⟨some x, 1, rfl, by simp, by simp, ⟨by decide, fun h => by cases h⟩, fun y hy => ?_, Or.inr ⟨x, rfl, hx, fun i hi => ?_⟩⟩
  · simp at hy
    subst hy
    exact ha
  · match i, hi with
    | 0, _ => rw [add_zero']; exact h0
theorem lit_one (w : World) (a : Int) (ha : Sx a) : Nl (w.alloc (.cells #[.int .i64 a] 2)) (.slice (some ⟨w.heap.size, 0, none⟩) 1 1) [a] :=
  Nl.one (by rw [cell_at (heap_alloc_new _ _)]; rfl) ha (by simp)
/-- A call, done over the cells. -/
theorem dn_any {w0 wr : World} {n gc : Nat} {c : Int} {A C : List Int} {L Fr : List Nat} {vw va : Value} {K : List Int} (hn : n ≤ 16) (hq : WM w0 wr n gc C vw K) (hi : CInv n C L Fr) (hS : ∀ x ∈ C, Sx x) (ha : Nl wr va A) (hr : rightV 0 n c A.length = true) :
    Calls Try.prog 12 #[.slice (some ⟨gc, 0, none⟩) (2 * n + 3) (2 * n + 3), .int .i64 0, .int .i64 (n : Int), .int .i64 c, va] wr fun e w'' => e = .returned (.tuple #[.int .i64 (meanV n c A (kys C L)).2.1, .int .i64 (meanV n c A (kys C L)).2.2, .bool true]) ∧ ∃ C' L' Fr', WM w0 w'' n gc C' vw K ∧ CInv n C' L' Fr' ∧ (∀ x ∈ C', Sx x) ∧ kys C' L' = (meanV n c A (kys C L)).1 := by
  obtain ⟨L', Fr', h1, h2, h3⟩ := call_means hn hr hi hS ha.w64
  have hrun := run_first (most := (n : Int)) (call := c) (A := A) (C := C) hr (by have := hi.len; omega)
  refine (done_run 0 (n : Int) c ha hr hq.rc).mono ?_
  rintro e w'' ⟨e1, e2, e3⟩
  rw [hrun] at e1 e2
  simp only at e1 e2
  exact ⟨by rw [h3]; exact e1, _, L', Fr', hq.done e3 e2, h1, h2, by rw [h3]⟩
theorem nth_zero (k j : Nat) : nth (List.replicate k (0 : Int)) j = 0 := by
  unfold nth
  rw [List.getD_eq_getElem?_getD, List.getElem?_replicate]
  split <;> rfl
theorem CInv.zero (n : Nat) : CInv n (List.replicate (2 * n + 3) 0) [] [] :=
  ⟨by simp, nth_zero _ _, nth_zero _ _, trivial, trivial, ⟨0, nth_zero _ _, by omega, rfl, by simp, by simp⟩, by simp [kys]⟩
theorem sx_zero (k : Nat) : ∀ x ∈ List.replicate k (0 : Int), Sx x := fun x hx => by
  rw [List.eq_of_mem_replicate hx]
  exact ⟨by decide, by decide⟩
/-- What comes at a place: its key, or none. -/
def ansV (K : List Int) (i : Nat) : Int := if i < K.length then nth K i else 0
def ansC (K : List Int) (i : Nat) : Int := if i < K.length then 0 else 1
theorem rise_nth {K : List Int} (h : K.Pairwise (· < ·)) {i j : Nat} (hij : i < j) (hj : j < K.length) : nth K i < nth K j := by
  rw [nth_at (by omega), nth_at hj]
  exact List.pairwise_iff_getElem.1 h i j (by omega) hj hij
theorem fo_at {K : List Int} (h : K.Pairwise (· < ·)) {i : Nat} (hi : i < K.length) : (foK (nth K i) K).length = i := by
  by_cases h1 : (foK (nth K i) K).length < i
  · exact absurd (rise_nth h h1 hi) (fo_stop (by omega))
  · by_cases h2 : i < (foK (nth K i) K).length
    · exact absurd (fo_lt h2).2 (by omega)
    · omega
theorem next_at {n : Nat} {K : List Int} (h : K.Pairwise (· < ·)) {i : Nat} (hi : i < K.length) : meanV n 8 [nth K i] K = (K, ansV K (i + 1), ansC K (i + 1)) := by
  have hf := fo_at h hi
  have hth : thK (nth K i) K = true := by
    rw [th_is (by omega), hf]
    simp
  have e : nth [nth K i] 0 = nth K i := rfl
  simp only [meanV, e, hth, ← fo_drop, hf]
  by_cases h1 : i + 1 < K.length
  · simp [drop_at hi, drop_at h1, firK, ansV, ansC, h1]
  · have h2 : K.drop (i + 1) = [] := by simp; omega
    simp [drop_at hi, h2, firK, ansV, ansC, h1]
theorem least_at {n : Nat} (K : List Int) : meanV n 7 [] K = (K, ansV K 0, ansC K 0) := by
  cases K with
  | nil => simp [meanV, firK, ansV, ansC]
  | cons x l => simp [meanV, firK, ansV, ansC, nth]
theorem len_at {n : Nat} (K : List Int) : meanV n 5 [] K = (K, (K.length : Int), 0) := by simp [meanV]
theorem wk_wrap {n : Nat} (h : n ≤ 16) : wrap64 (2 * (n : Int)) = 2 * (n : Int) ∧ wrap64 (2 * (n : Int) + 3) = 2 * (n : Int) + 3 := by
  unfold wrap64
  omega
theorem wk_i {i k : Nat} (h : i < k) (hk : k ≤ 17592186044416) : wrap64 ((i : Int) + 1) = ((i + 1 : Nat) : Int) := by
  unfold wrap64
  omega
theorem wk_less {i k : Nat} (h : i < k) : k - (i + 1) < k - i := by omega
set_option maxRecDepth 100000 in
set_option maxHeartbeats 1000000 in
theorem walks_yes {w : World} (n : Nat) (hn16 : n ≤ 16) {vk : Value} {Q : List Int} (hk : Nl w vk Q) : Calls Try.prog 5 #[.int .i64 (n : Int), vk] w fun e w' => e = .returned (.bool true) ∧ Below w.heap.size w w' := by
  have HK : Hid (∀ w' : World, Below w.heap.size w w' → Nl w' vk Q) := fun w' hb => hk.later hb (Nat.le_refl _)
  obtain ⟨ka, kcap, rfl⟩ := nl_slice hk
  obtain ⟨_, hQl, _⟩ := nl_cells hk
  clear hk
  have d1 : decide ((n : Int) < 0) = false := by simp
  have d2 : decide ((16 : Int) < (n : Int)) = false := by simp; omega
  obtain ⟨hw1, hw2⟩ := wk_wrap hn16
  obtain ⟨w1, hm1, ho1, hb1, hlt1⟩ := make_nums w (2 * n + 3) (by omega)
  rw [show ((2 * n + 3 : Nat) : Int) = 2 * (n : Int) + 3 from by omega] at hm1
  have HY1 : Hid (WM w w1 n w.heap.size (List.replicate (2 * n + 3) 0) (.slice none 0 0) []) := ⟨hb1, ho1, Nl.nil, fun b m c e => by cases e⟩
  have HZ : Hid (CInv n (List.replicate (2 * n + 3) 0) [] [] ∧ ∀ x ∈ List.replicate (2 * n + 3) (0 : Int), Sx x) := ⟨CInv.zero n, sx_zero _⟩
  generalize List.replicate (2 * n + 3) (0 : Int) = C0 at *
  clear ho1 hb1 hlt1
  go_enter Try.func5, Try.ntmps5
  go_upto_block 0 with fail
  obtain ⟨gc, hgc⟩ : ∃ gc, gc = w.heap.size := ⟨_, rfl⟩
  rw [← hgc] at HY1 ⊢
  clear hgc hm1 hw1 hw2 d1 d2
  go_cut [6, 7] (fun wv _ wx => ∃ C L Fr, WM w wx n gc C wv (kys C L) ∧ CInv n C L Fr ∧ ∀ x ∈ C, Sx x)
  case first =>
    go_wp2_with fail
    go_loopg [6, 7] Q.length (fun gh wv iv wr => ∃ (i : Nat) (C : List Int) (L Fr : List Nat), Q.length - i = gh ∧ i ≤ Q.length ∧ iv = .int .i64 (i : Int) ∧ WM w wr n gc C wv (kys C L) ∧ CInv n C L Fr ∧ ∀ x ∈ C, Sx x)
    case atStart => exact ⟨0, C0, [], [], rfl, by omega, rfl, HY1.out, HZ.out.1, HZ.out.2⟩
    case round =>
      obtain ⟨i, C, L, Fr, rfl, hi, rfl, hym, hin, hsx⟩ := hrel
      have HYM : Hid (WM w wr n gc C u6 (kys C L)) := hym
      have HIN : Hid (CInv n C L Fr ∧ ∀ x ∈ C, Sx x) := ⟨hin, hsx⟩
      clear hym hin hsx HY1 HZ
      by_cases h1 : i < Q.length
      · have d1 : decide ((i : Int) < (Q.length : Int)) = true := by simpa using h1
        obtain ⟨_, _, hnc⟩ := nl_cells (HK.out wr HYM.out.bel)
        obtain ⟨xk, rfl, hxb, x0⟩ := hnc i h1
        have HK2 : Hid (∀ w' : World, Below w.heap.size w w' → w'.cell? (xk.add i) = some (.int .i64 (nth Q i)) ∧ Sx (nth Q i)) := fun w' hb => by
          obtain ⟨_, _, hnc⟩ := nl_cells (HK.out w' hb)
          obtain ⟨x', e, _, x1⟩ := hnc i h1
          injection e with e
          subst e
          exact ⟨x1, nl_w64 (HK.out w' hb).w64 i⟩
        have hw1 := wk_i h1 hQl
        have HI1 : Hid (i < Q.length) := h1
        generalize nth Q i = key at *
        clear hnc hxb
        obtain ⟨wa, wcap, hwv⟩ := nl_slice HYM.out.nl
        have HKL : Hid ((kys C L).length ≤ 90) := by have : (kys C L).length ≤ 90 := (by have := HIN.out.1.most; simp [kys]; omega); exact this
        have HDP : Hid (∀ (w' : World) (va : Value), WM w w' n gc C u6 (kys C L) → Nl w' va [key] → Calls Try.prog 12 #[.slice (some ⟨gc, 0, none⟩) (2 * n + 3) (2 * n + 3), .int .i64 0, .int .i64 (n : Int), .int .i64 1, va] w' fun e w'' => e = .returned (.tuple #[.int .i64 (meanV n 1 [key] (kys C L)).2.1, .int .i64 (meanV n 1 [key] (kys C L)).2.2, .bool true]) ∧ ∃ C' L' Fr', WM w w'' n gc C' u6 (kys C L) ∧ CInv n C' L' Fr' ∧ (∀ x ∈ C', Sx x) ∧ kys C' L' = (meanV n 1 [key] (kys C L)).1) := fun w' va h1 h2 => dn_any hn16 h1 HIN.out.1 HIN.out.2 h2 (ry_of hn16 rfl)
        have HMN : Hid (∀ (w' : World), Nl w' u6 (kys C L) → ∀ x, x.block < w'.heap.size → w'.cell? x = some (.int .i64 key) → Calls Try.prog 13 #[u6, .int .i64 (n : Int), .int .i64 1, .slice (some x) 1 1] w' (MnP w' u6 (meanV n 1 [key] (kys C L)))) := fun w' h1 x hx hc => means_one h1 HKL.out (Or.inl rfl) hx hc (HK2.out wr HYM.out.bel).2
        generalize hmv : meanV n 1 [key] (kys C L) = R at *
        obtain ⟨K', av, cd⟩ := R
        simp only at HDP
        generalize hkk : kys C L = KK at *
        clear hmv hwv
        go_wp2_with fail
        refine (HDP.out _ _ (HYM.out.later (below_a1 _ _)) (lit_one wr key (HK2.out wr HYM.out.bel).2)).mono ?_
        rintro e w2 ⟨rfl, C2, L2, Fr2, hq2, hi2, hs2, hk2⟩
        have HQ2 : Hid (WM w w2 n gc C2 u6 KK) := hq2
        have HI2 : Hid (CInv n C2 L2 Fr2 ∧ (∀ x ∈ C2, Sx x) ∧ kys C2 L2 = K') := ⟨hi2, hs2, hk2⟩
        obtain ⟨x2, hsk⟩ := HK2.out w2 hq2.bel
        clear hq2 hi2 hs2 hk2 HDP HYM HIN x0
        go_wp2_with fail
        refine (HMN.out _ (HQ2.out.later (below_a1 _ _)).nl ⟨w2.heap.size, 0, none⟩ (by simp) (by rw [cell_at (heap_alloc_new _ _)]; rfl)).mono ?_
        rintro e w3 ⟨v', rfl, hb3, hn3, hv3⟩
        have HQ3 : Hid (WM w w3 n gc C2 v' K') := (HQ2.out.later (below_a1 _ _)).mean hb3 hn3 hv3
        clear hb3 hn3 hv3 HMN HQ2 x2
        go_wp2_with fail
        go_roundg (Q.length - (i + 1))
        case rel => exact ⟨i + 1, C2, L2, Fr2, rfl, HI1.out, by first | rw [hw1] | go_num, by rw [HI2.out.2.2]; exact HQ3.out, HI2.out.1, HI2.out.2.1⟩
        case measure => exact wk_less HI1.out
      · have d1 : decide ((i : Int) < (Q.length : Int)) = false := by simpa using h1
        go_wp2_with fail
        go_meet
        exact ⟨C, L, Fr, HYM.out, HIN.out.1, HIN.out.2⟩
  case rest =>
    obtain ⟨C, L, Fr, hym, hin, hsx⟩ := hcut
    obtain ⟨K, hKK⟩ : ∃ K, K = kys C L := ⟨_, rfl⟩
    rw [← hKK] at hym
    have HYM : Hid (WM w wc n gc C u6 K) := hym
    have HIN : Hid (CInv n C L Fr ∧ (∀ x ∈ C, Sx x) ∧ kys C L = K) := ⟨hin, hsx, hKK.symm⟩
    have HRI : Hid (K.Pairwise (· < ·) ∧ K.length ≤ 16) := by have : K.Pairwise (· < ·) ∧ K.length ≤ 16 := ⟨by rw [hKK]; exact hin.rise, by rw [hKK]; have := hin.most; simp [kys]; omega⟩; exact this
    have HD7 : Hid (∀ (w' : World) (va : Value) C, ∀ L Fr, WM w w' n gc C u6 K → CInv n C L Fr → (∀ x ∈ C, Sx x) → kys C L = K → Nl w' va [] → Calls Try.prog 12 #[.slice (some ⟨gc, 0, none⟩) (2 * n + 3) (2 * n + 3), .int .i64 0, .int .i64 (n : Int), .int .i64 7, va] w' fun e w'' => e = .returned (.tuple #[.int .i64 (ansV K 0), .int .i64 (ansC K 0), .bool true]) ∧ ∃ C' L' Fr', WM w w'' n gc C' u6 K ∧ CInv n C' L' Fr' ∧ (∀ x ∈ C', Sx x) ∧ kys C' L' = K) := fun w' va C L Fr h1 h2 h3 h4 h5 => by have := dn_any (c := 7) hn16 h1 h2 h3 h5 (ry_of hn16 rfl); rw [h4, least_at] at this; exact this
    have HD5 : Hid (∀ (w' : World) (va : Value) C, ∀ L Fr, WM w w' n gc C u6 K → CInv n C L Fr → (∀ x ∈ C, Sx x) → kys C L = K → Nl w' va [] → Calls Try.prog 12 #[.slice (some ⟨gc, 0, none⟩) (2 * n + 3) (2 * n + 3), .int .i64 0, .int .i64 (n : Int), .int .i64 5, va] w' fun e w'' => e = .returned (.tuple #[.int .i64 (K.length : Int), .int .i64 0, .bool true]) ∧ ∃ C' L' Fr', WM w w'' n gc C' u6 K ∧ CInv n C' L' Fr' ∧ (∀ x ∈ C', Sx x) ∧ kys C' L' = K) := fun w' va C L Fr h1 h2 h3 h4 h5 => by have := dn_any (c := 5) hn16 h1 h2 h3 h5 (ry_of hn16 rfl); rw [h4, len_at] at this; exact this
    have HD8 : Hid (∀ i, i < K.length → ∀ (w' : World) (va : Value) C, ∀ L Fr, WM w w' n gc C u6 K → CInv n C L Fr → (∀ x ∈ C, Sx x) → kys C L = K → Nl w' va [nth K i] → Calls Try.prog 12 #[.slice (some ⟨gc, 0, none⟩) (2 * n + 3) (2 * n + 3), .int .i64 0, .int .i64 (n : Int), .int .i64 8, va] w' fun e w'' => e = .returned (.tuple #[.int .i64 (ansV K (i + 1)), .int .i64 (ansC K (i + 1)), .bool true]) ∧ ∃ C' L' Fr', WM w w'' n gc C' u6 K ∧ CInv n C' L' Fr' ∧ (∀ x ∈ C', Sx x) ∧ kys C' L' = K) := fun i hi => fun w' va C L Fr h1 h2 h3 h4 h5 => by have := dn_any (c := 8) hn16 h1 h2 h3 h5 (ry_of hn16 rfl); rw [h4, next_at HRI.out.1 hi] at this; exact this
    obtain ⟨wa, wcap, hwv⟩ := nl_slice hym.nl
    have HWA : Hid (∀ (w' : World) C, WM w w' n gc C u6 K → ∀ i, i < K.length → ∃ x, wa = some x ∧ x.block < w'.heap.size ∧ w'.cell? (x.add i) = some (.int .i64 (nth K i))) := fun w' C h => by
      have h1 := h.nl
      rw [hwv] at h1
      exact (nl_cells h1).2.2
    have HSK : Hid (∀ i, Sx (nth K i)) := nl_w64 hym.nl.w64
    have HU6 : Hid (u6 = .slice wa K.length wcap) := hwv
    subst hwv
    clear hym hin hsx hKK HY1 HZ HK
    go_wp2_with fail
    refine (HD7.out _ _ _ _ _ HYM.out HIN.out.1 HIN.out.2.1 HIN.out.2.2 Nl.nil).mono ?_
    rintro e w2 ⟨rfl, C2, L2, Fr2, hq2, hi2, hs2, hk2⟩
    have HQ2 : Hid (WM w w2 n gc C2 (.slice wa K.length wcap) K ∧ CInv n C2 L2 Fr2 ∧ (∀ x ∈ C2, Sx x) ∧ kys C2 L2 = K) := ⟨hq2, hi2, hs2, hk2⟩
    clear hq2 hi2 hs2 hk2 HYM HIN HD7
    go_wp2_with fail
    go_loopg [14, 15, 16, 17] K.length (fun gh vv cv fv iv wr => ∃ (i : Nat) (C : List Int) (L Fr : List Nat), K.length - i = gh ∧ i ≤ K.length ∧ vv = .int .i64 (ansV K i) ∧ cv = .int .i64 (ansC K i) ∧ fv = .bool true ∧ iv = .int .i64 (i : Int) ∧ WM w wr n gc C (.slice wa K.length wcap) K ∧ CInv n C L Fr ∧ (∀ x ∈ C, Sx x) ∧ kys C L = K)
    case atStart => exact ⟨0, C2, L2, Fr2, rfl, by omega, rfl, rfl, rfl, rfl, HQ2.out⟩
    case round =>
      obtain ⟨i, C1, L1, Fr1, rfl, hi, rfl, rfl, rfl, rfl, hq⟩ := hrel
      have HQ : Hid (WM w wr n gc C1 (.slice wa K.length wcap) K ∧ CInv n C1 L1 Fr1 ∧ (∀ x ∈ C1, Sx x) ∧ kys C1 L1 = K) := hq
      clear hq HQ2
      by_cases h1 : i < K.length
      · have d1 : decide ((i : Int) < (K.length : Int)) = true := by simpa using h1
        obtain ⟨xk, rfl, hxb, x0⟩ := HWA.out wr C1 HQ.out.1 i h1
        have ea : ansV K i = nth K i := by unfold ansV; rw [if_pos h1]
        have ec : ansC K i = 0 := by unfold ansC; rw [if_pos h1]
        have HD8' := HD8.out i h1
        have hw1 := wk_i h1 (by have := HRI.out.2; omega)
        have HI1 : Hid (i < K.length) := h1
        have HSI : Hid (Sx (nth K i)) := HSK.out i
        rw [ea, ec]
        have HD8'' : Hid _ := HD8'
        generalize hav : ansV K (i + 1) = av at *
        generalize hac : ansC K (i + 1) = ac at *
        have HAV : Hid (ansV K (i + 1) = av ∧ ansC K (i + 1) = ac) := ⟨hav, hac⟩
        clear hav hac
        generalize nth K i = z at *
        clear ea ec HD8' HD8 HD5
        go_wp2_with fail
        refine (HD8''.out _ _ _ _ _ (HQ.out.1.later (below_a1 _ _)) HQ.out.2.1 HQ.out.2.2.1 HQ.out.2.2.2 (lit_one wr z HSI.out)).mono ?_
        rintro e w3 ⟨rfl, C3, L3, Fr3, hq3, hi3, hs3, hk3⟩
        have HQ3 : Hid (WM w w3 n gc C3 (.slice (some xk) K.length wcap) K ∧ CInv n C3 L3 Fr3 ∧ (∀ x ∈ C3, Sx x) ∧ kys C3 L3 = K) := ⟨hq3, hi3, hs3, hk3⟩
        clear hq3 hi3 hs3 hk3 HQ HD8'' x0
        go_wp2_with fail
        go_roundg (K.length - (i + 1))
        case rel => exact ⟨i + 1, C3, L3, Fr3, rfl, HI1.out, by rw [HAV.out.1], by rw [HAV.out.2], rfl, by first | rw [hw1] | go_num, HQ3.out⟩
        case measure => exact wk_less HI1.out
      · have d1 : decide ((i : Int) < (K.length : Int)) = false := by simpa using h1
        have ea : ansV K i = 0 := by unfold ansV; rw [if_neg h1]
        have ec : ansC K i = 1 := by unfold ansC; rw [if_neg h1]
        rw [ea, ec]
        clear ea ec HD8
        go_wp2_with fail
        refine (HD5.out _ _ _ _ _ HQ.out.1 HQ.out.2.1 HQ.out.2.2.1 HQ.out.2.2.2 Nl.nil).mono ?_
        rintro e w3 ⟨rfl, C3, L3, Fr3, hq3, hi3, hs3, hk3⟩
        have HB3 : Hid (Below w.heap.size w w3) := hq3.bel
        clear hq3 hi3 hs3 hk3 HQ HD5
        go_wp2_with fail
        go_ret
        exact ⟨rfl, HB3.out⟩
theorem walks_no {w : World} (m : Int) {vk : Value} {Q : List Int} (hk : Nl w vk Q) (h : m < 0 ∨ 16 < m) : Calls Try.prog 5 #[.int .i64 m, vk] w fun e w' => e = .returned (.bool true) ∧ Below w.heap.size w w' := by
  obtain ⟨ka, kcap, rfl⟩ := nl_slice hk
  clear hk
  by_cases h1 : m < 0
  · have d1 : decide (m < 0) = true := by simpa using h1
    clear h
    go_enter Try.func5, Try.ntmps5
    go_wp2_with fail
    go_ret
    exact ⟨rfl, Below.refl _ _⟩
  · have d1 : decide (m < 0) = false := by simpa using h1
    have h2 : 16 < m := by omega
    have d2 : decide (16 < m) = true := by simpa using h2
    clear h
    go_enter Try.func5, Try.ntmps5
    go_wp2_with fail
    go_ret
    exact ⟨rfl, Below.refl _ _⟩
theorem walks_walk {w : World} (m : Int) {vk : Value} {Q : List Int} (hk : Nl w vk Q) : Calls Try.prog 5 #[.int .i64 m, vk] w fun e w' => e = .returned (.bool true) ∧ Below w.heap.size w w' := by
  by_cases h : m < 0 ∨ 16 < m
  · exact walks_no m hk h
  · obtain ⟨n, rfl⟩ := Int.eq_ofNat_of_zero_le (a := m) (by omega)
    exact walks_yes n (by omega) hk
end Go.Proofs.Ytbbcfimgnbdpeab.Ch
