/- The program's Shape: nodes from a link on, their keys, whether they rise. -/
import Derived.Test.YtaffkcliepfcmaaChSh
import Derived.Test.YtaffkcliepfcmaaChU
import Derived.Test.YtaffkcliepfcmaaCoR
import Derived.Deep.LoopGhost
import Derived.BigQuiet
import Derived.Deep.QuietTactic
namespace Go.Proofs.Ytaffkcliepfcmaa.Ch
open Go.ChangeShapes Go.WideShapes Go.ChangeAt Go.RowKit
attribute [local go_sem ↓] Go.wp_at_zero Go.wp_at_succ

theorem info_int : (Try.prog.info? 3).map (fun i => (i.zero, i.size, i.bytes)) = some (some (.int .i64 0), 1, 8) := by kernel_rfl
/-- Nodes, as cells. -/
def inC (L : List Nat) : List Value := numC (L.map (fun i : Nat => (i : Int)))
theorem inC_len (L : List Nat) : (inC L).length = L.length := by simp [inC, numC]
theorem inC_snoc (L : List Nat) (i : Nat) : inC (L ++ [i]) = inC L ++ [.int .i64 (i : Int)] := by simp [inC, numC]
def NfP (w : World) (t : Option (List Nat)) (e : Ending) (w' : World) : Prop :=
  Below w.heap.size w w' ∧ ((t = none ∧ e = .returned (.tuple #[.slice none 0 0, .bool false])) ∨ ∃ L v, t = some L ∧ e = .returned (.tuple #[v, .bool true]) ∧ w'.ownsRow w.heap.size 3 1 v L.length (inC L))
set_option maxRecDepth 100000 in
set_option maxHeartbeats 1000000 in
theorem nodes_any {w : World} {c u n : Nat} {vc : Value} {C : List Int} (hv : Nl w vc C) (hC : C.length = 2 * n + 3) (hc : c ≤ 1) (hu : u ≤ n) (hn : n ≤ 16) : Calls Try.prog 23 #[.int .i64 (c : Int), .int .i64 (u : Int), vc] w (NfP w (nf C u u (nth C c))) := by
  have HL : Hid (∀ (w : World) (p : Int), Calls Try.prog 40 #[.int .i64 p, .int .i64 (u : Int)] w fun e w' => e = .returned (.tuple #[.int .i64 (leadV p u), .bool (decide (leadV p u ≠ 0))]) ∧ w' = w) := fun w p => leads_any w p u
  have HN : Hid (∀ (w : World) (i : Nat), i ≤ 16 → Calls Try.prog 39 #[.int .i64 (i : Int)] w fun e w' => e = .returned (.int .i64 ((nx i : Nat) : Int)) ∧ w' = w) := fun w i h => by have := nextof_any w (i := (i : Int)) (by omega); rw [nxt_int] at this; exact this
  obtain ⟨a, cap, rfl⟩ := nl_slice hv
  obtain ⟨_, _, hcell⟩ := nl_cells hv
  obtain ⟨i0, hi, hz0, hz1, hz2⟩ := info_parts info_int
  have HC : Hid (∀ i, i < C.length → ∃ x, a = some x ∧ x.block < w.heap.size ∧ w.cell? (x.add i) = some (.int .i64 (nth C i))) := hcell
  have HB : Hid (C.length = 2 * n + 3 ∧ u ≤ n ∧ n ≤ 16) := ⟨hC, hu, hn⟩
  obtain ⟨x0, hx0, hxb0, hxc0⟩ := hcell c (by omega)
  subst hx0
  have hcl : c < C.length := by omega
  obtain ⟨t, ht⟩ : ∃ t, nf C u u (nth C c) = t := ⟨_, rfl⟩
  rw [ht]
  have HT : Hid ((nf C u u (nth C c)).map ([] ++ ·) = t) := by rw [Hid, ← ht]; simp
  generalize nth C c = l0 at *
  clear hv hcell hu hn ht
  go_enter Try.func23, Try.ntmps23
  go_wp2_with fail
  go_loopg [8, 9] u (fun gh hv lv wr => ∃ (M : List Nat) (f : Nat) (link : Int), f = gh ∧ M.length + f = u ∧ lv = .int .i64 link ∧ wr.ownsRow w.heap.size 3 1 hv M.length (inC M) ∧ Below w.heap.size w wr ∧ (nf C u f link).map (M ++ ·) = t)
  case atStart => exact ⟨[], u, l0, rfl, by simp, rfl, World.ownsRow_nil _ _ _ _, Below.refl _ _, HT.out⟩
  case round =>
    obtain ⟨M, f, link, rfl, hMf, rfl, hown, hbel, hres⟩ := hrel
    have HO : Hid (wr.ownsRow w.heap.size 3 1 u8 M.length (inC M)) := hown
    have HBR : Hid (Below w.heap.size w wr) := hbel
    have hsz : w.heap.size ≤ wr.heap.size := hbel.size
    clear hown hbel HT hxc0
    by_cases h0 : link = 0
    · subst h0
      have HR : Hid (t = some M) := by rw [Hid, ← hres]; cases f <;> simp [nf]
      clear hres hMf
      go_wp2_with fail
      go_ret2
      exact ⟨HBR.out, Or.inr ⟨M, _, HR.out, rfl, HO.out⟩⟩
    · have d0 : (link == 0) = false := by simpa using h0
      have HL1 : Hid (∀ w : World, Calls Try.prog 40 #[.int .i64 link, .int .i64 (u : Int)] w fun e w' => e = .returned (.tuple #[.int .i64 (leadV link u), .bool (decide (leadV link u ≠ 0))]) ∧ w' = w) := fun w => HL.out w link
      by_cases hl : leadV link u = 0
      · have HR : Hid (t = none) := by rw [Hid, ← hres]; cases f <;> simp [nf, h0, hl]
        have hd : decide (leadV link u ≠ 0) = false := by simp [hl]
        rw [hd] at HL1
        generalize leadV link u = y at *
        clear hres hMf HL h0 hl hd
        go_wp2_with fail
        refine (HL1.out _).mono ?_
        rintro e w1 ⟨rfl, hw1⟩
        obtain rfl := hw1.symm
        clear hw1
        go_wp2_with fail
        go_ret2
        exact ⟨HBR.out, Or.inl ⟨HR.out, rfl⟩⟩
      · obtain ⟨e1, e2, e3⟩ := lead_nat hl
        obtain ⟨i, hi9⟩ : ∃ i, (leadV link u).toNat = i := ⟨_, rfl⟩
        rw [hi9] at e1 e2 e3
        have hli : leadV link u = (i : Int) := by obtain ⟨q1, q2⟩ := lead_of hl; omega
        have hd : decide (leadV link u ≠ 0) = true := by simp [hl]
        rw [hd, hli] at HL1
        cases f with
        | zero =>
          have HR : Hid (t = none) := by rw [Hid, ← hres]; simp [nf, h0]
          have dM : ((M.length : Int) == (u : Int)) = true := by simp; omega
          have dMn : (M.length == u) = true := by simp; omega
          clear hres HL h0 hl hd hli hi9 hMf
          go_wp2_with fail
          refine (HL1.out _).mono ?_
          rintro e w1 ⟨rfl, hw1⟩
          obtain rfl := hw1.symm
          clear hw1
          obtain ⟨va, vc, rfl⟩ := own_slice HO.out
          go_wp2_with fail
          go_ret2
          exact ⟨HBR.out, Or.inl ⟨HR.out, rfl⟩⟩
        | succ f =>
          have HR : Hid ((nf C u f (nth C (nx i))).map ((M ++ [i]) ++ ·) = t) := by
            have : (nf C u f (nth C (nx i))).map ((M ++ [i]) ++ ·) = t := (by
              rw [← hres]
              simp only [nf, h0, hl, if_false, hi9]
              cases nf C u f (nth C (nx i)) <;> simp)
            exact this
          have dM : ((M.length : Int) == (u : Int)) = false := by simp; omega
          have dMn : (M.length == u) = false := by simp; omega
          have hq : nx i < C.length := by have := HB.out; unfold nx; omega
          obtain ⟨x1, hx1, hxb, hx⟩ := HC.out (nx i) hq
          have hx2 : x1 = x0 := by injection hx1 with e; exact e.symm
          subst hx2
          have hM : M.length ≤ 100 := by have := HB.out; omega
          have HNX : Hid (∀ w : World, Calls Try.prog 39 #[.int .i64 (i : Int)] w fun e w' => e = .returned (.int .i64 ((nx i : Nat) : Int)) ∧ w' = w) := fun w => HN.out w i (by have := HB.out; omega)
          have HXC : Hid (x1.block < w.heap.size ∧ w.cell? (x1.add (nx i)) = some (.int .i64 (nth C (nx i)))) := ⟨hxb, hx⟩
          have HMF : Hid (M.length + 1 + f = u) := by have : M.length + 1 + f = u := (by omega); exact this
          generalize nth C (nx i) = l1 at *
          generalize nx i = q at *
          clear hres HL h0 hl hd hli hi9 hMf hxb hx HN e1 hx1
          go_wp2_with fail
          refine (HL1.out _).mono ?_
          rintro e w1 ⟨rfl, hw1⟩
          obtain rfl := hw1.symm
          clear hw1
          obtain ⟨va, vc, rfl⟩ := own_slice HO.out
          go_wp2_with (at_builtin; refine list_lies_wide _ rfl _ _ 63 rfl w.heap.size 3 i0 _ 1 8 Try.underlying63 hi hz0 hz1 hz2 rfl (by decide) _ _ _ rfl (HO.out.alloc _) ⟨wr.heap.size, 0, none⟩ 1 1 [.int .i64 (i : Int)] rfl rfl (World.news_of_block (cs := #[.int .i64 (i : Int)]) (t := 3) (fr := (0, 0)) (heap_alloc_new _ _)) (by intro u hu; simp at hu; subst hu; rfl) (by decide) (by unfold maxLen; omega) (by omega) (by simp; omega) _ rfl ?_)
          intro g cp w2 hown' hgrow _ _
          have HO2 : Hid (w2.ownsRow w.heap.size 3 1 (.slice (some ⟨g, 0, none⟩) (M.length + 1) cp) (M ++ [i]).length (inC (M ++ [i]))) := by rw [Hid, inC_snoc, List.length_append]; exact hown'
          have HB2 : Hid (Below w.heap.size w w2) := (below_alloc HBR.out _).grown hgrow (by simp; omega) (fun b hb => by have := own_block HO.out b hb; omega)
          have z1 : w2.cell? (x1.add q) = some (.int .i64 l1) := cell_later HB2.out (by rw [add_block]; exact HXC.out.1) HXC.out.2
          clear hown' hgrow HO
          go_wp2_with fail
          refine (HNX.out _).mono ?_
          rintro e w3 ⟨rfl, hw3⟩
          obtain rfl := hw3.symm
          clear hw3
          go_wp2_with fail
          go_roundg f
          case rel => exact ⟨M ++ [i], f, l1, rfl, by have := HMF.out; simp; omega, rfl, HO2.out, HB2.out, HR.out⟩
          case measure => exact Nat.lt_succ_self f
theorem nl_int {w : World} {base : Nat} {v : Value} {L : List Nat} (h : w.ownsRow base 3 1 v L.length (inC L)) (hn : L.length ≤ 100) (hr : ∀ i ∈ L, i ≤ 100) : Nl w v (L.map (fun i : Nat => (i : Int))) := by
  have hlen : (L.map (fun i : Nat => (i : Int))).length = L.length := by simp
  have hsx : ∀ x ∈ L.map (fun i : Nat => (i : Int)), Sx x := fun x hx => by
    obtain ⟨i, hi, rfl⟩ := List.mem_map.1 hx
    have := hr i hi
    exact ⟨by omega, by omega⟩
  have hc := h
  obtain ⟨_, h⟩ := h
  rcases h with ⟨rfl, h0⟩ | ⟨g, cap, cur, rfl, hg, hb, h1, h2, _⟩
  · exact ⟨none, 0, by rw [hlen, h0], by rw [hlen]; omega, by rw [hlen]; omega, ⟨by omega, fun _ => rfl⟩, hsx, Or.inl (by rw [hlen]; exact h0)⟩
  · refine ⟨some ⟨g, 0, none⟩, cap, by rw [hlen], by rw [hlen]; omega, by rw [hlen]; exact h1, ⟨by unfold maxLen at h2; omega, fun h => by cases h⟩, hsx, ?_⟩
    by_cases h0 : L.length = 0
    · exact Or.inl (by rw [hlen]; exact h0)
    · refine Or.inr ⟨⟨g, 0, none⟩, rfl, heap_lt hb, fun i hi => ?_⟩
      have e : (⟨g, 0, none⟩ : Addr).add i = ⟨g, i, none⟩ := by unfold Addr.add; split <;> simp_all
      rw [e]
      exact own_cells hc _ _ (numC_get _ i hi)
theorem kys_snoc (C : List Int) (L : List Nat) (j : Nat) (h : j < L.length) : kys C (L.take (j + 1)) = kys C (L.take j) ++ [nth C (ky L[j])] := by
  rw [List.take_succ_eq_append_getElem h]
  unfold kys
  rw [List.map_append]
  rfl
set_option maxRecDepth 100000 in
set_option maxHeartbeats 1000000 in
theorem keys_any {w : World} {n : Nat} {vn vc : Value} {C : List Int} {L : List Nat} (hv : Nl w vc C) (hC : C.length = 2 * n + 3) (hn : n ≤ 16) (hL : Nl w vn (L.map (fun i : Nat => (i : Int)))) (hr : ∀ i ∈ L, 1 ≤ i ∧ i ≤ n) (hl : L.length ≤ 100) : Calls Try.prog 24 #[vn, vc] w fun e w' => ∃ v, e = .returned v ∧ w'.ownsRow w.heap.size 2 1 v L.length (numC (kys C L)) ∧ Below w.heap.size w w' := by
  have HK : Hid (∀ (w : World) (i : Nat), i ≤ 16 → Calls Try.prog 41 #[.int .i64 (i : Int)] w fun e w' => e = .returned (.int .i64 ((ky i : Nat) : Int)) ∧ w' = w) := fun w i h => by have := keyof_any w (i := (i : Int)) (by omega); rw [key_int] at this; exact this
  obtain ⟨a, cap, rfl⟩ := nl_slice hv
  obtain ⟨_, _, hcell⟩ := nl_cells hv
  obtain ⟨la, lcap, rfl⟩ := nl_slice hL
  obtain ⟨_, _, hlcell⟩ := nl_cells hL
  rw [List.length_map] at hlcell ⊢
  obtain ⟨i0, hi, hz0, hz1, hz2⟩ := info_parts info_i64
  have HC : Hid (∀ i, i < C.length → ∃ x, a = some x ∧ x.block < w.heap.size ∧ w.cell? (x.add i) = some (.int .i64 (nth C i))) := hcell
  have HLC : Hid (∀ i (h : i < L.length), ∃ x, la = some x ∧ x.block < w.heap.size ∧ w.cell? (x.add i) = some (.int .i64 (L[i] : Int))) := fun i h => by
    obtain ⟨x, h1, h2, h3⟩ := hlcell i h
    refine ⟨x, h1, h2, ?_⟩
    rw [h3, nth_at (by simpa using h)]
    simp
  have HB : Hid (C.length = 2 * n + 3 ∧ n ≤ 16 ∧ ∀ i ∈ L, 1 ≤ i ∧ i ≤ n) := ⟨hC, hn, hr⟩
  clear hv hL hcell hlcell hn hr hC
  go_enter Try.func24, Try.ntmps24
  go_wp2_with fail
  go_loopw [5, 10] (fun hv iv wr => ∃ j : Nat, j ≤ L.length ∧ iv = .int .i64 (j : Int) ∧ wr.ownsRow w.heap.size 2 1 hv j (numC (kys C (L.take j))) ∧ Below w.heap.size w wr) (fun _ iv _ => L.length - (intOf iv).toNat)
  case atStart => exact ⟨0, by omega, rfl, World.ownsRow_nil _ _ _ _, Below.refl _ _⟩
  case round =>
    obtain ⟨j, hj, rfl, hown, hbel⟩ := hrel
    have HO : Hid (wr.ownsRow w.heap.size 2 1 u5 j (numC (kys C (L.take j)))) := hown
    have HBR : Hid (Below w.heap.size w wr) := hbel
    have hsz : w.heap.size ≤ wr.heap.size := hbel.size
    clear hown hbel
    by_cases hlt : j < L.length
    · have hjd : decide ((j : Int) < (L.length : Int)) = true := by simp; omega
      obtain ⟨x, hx1, hxb, hx⟩ := HLC.out j hlt
      subst hx1
      have z1 : wr.cell? (x.add j) = some (.int .i64 (L[j] : Int)) := cell_later HBR.out (by rw [add_block]; exact hxb) hx
      have hin := HB.out.2.2 L[j] (List.getElem_mem hlt)
      have hq : ky L[j] < C.length := by have := HB.out; unfold ky; omega
      obtain ⟨y, hy1, hyb, hy⟩ := HC.out _ hq
      subst hy1
      have z2 : wr.cell? (y.add (ky L[j])) = some (.int .i64 (nth C (ky L[j]))) := cell_later HBR.out (by rw [add_block]; exact hyb) hy
      have HKN : Hid (∀ w : World, Calls Try.prog 41 #[.int .i64 (L[j] : Int)] w fun e w' => e = .returned (.int .i64 ((ky L[j] : Nat) : Int)) ∧ w' = w) := fun w => HK.out w _ (by have := HB.out; omega)
      have HSN : Hid (numC (kys C (L.take (j + 1))) = numC (kys C (L.take j)) ++ [.int .i64 (nth C (ky L[j]))]) := by rw [Hid, kys_snoc C L j hlt, numC_snoc]
      generalize nth C (ky L[j]) = c at *
      generalize ky L[j] = q at *
      generalize L[j] = i at *
      obtain ⟨va, vc, rfl⟩ := own_slice HO.out
      clear hx hy hin hxb hyb
      go_wp2_with fail
      refine (HKN.out _).mono ?_
      rintro e w1 ⟨rfl, hw1⟩
      obtain rfl := hw1.symm
      clear hw1
      go_wp2_with (at_builtin; refine list_lies_wide _ rfl _ _ 22 rfl w.heap.size 2 i0 _ 1 8 Try.underlying22 hi hz0 hz1 hz2 rfl (by decide) _ _ _ rfl (HO.out.alloc _) ⟨wr.heap.size, 0, none⟩ 1 1 [.int .i64 c] rfl rfl (World.news_of_block (cs := #[.int .i64 c]) (t := 2) (fr := (0, 0)) (heap_alloc_new _ _)) (by intro u hu; simp at hu; subst hu; rfl) (by decide) (by unfold maxLen; omega) (by omega) (by simp; omega) _ rfl ?_)
      intro g cp w2 hown' hgrow _ _
      have HO2 : Hid (w2.ownsRow w.heap.size 2 1 (.slice (some ⟨g, 0, none⟩) (j + 1) cp) (j + 1) (numC (kys C (L.take (j + 1))))) := by rw [Hid, HSN.out]; exact hown'
      have HB2 : Hid (Below w.heap.size w w2) := (below_alloc HBR.out _).grown hgrow (by simp; omega) (fun b hb => by have := own_block HO.out b hb; omega)
      clear hown' hgrow
      go_wp2
      go_roundw
      case rel => exact ⟨j + 1, by omega, by go_num, HO2.out, HB2.out⟩
      case measure => simp [intOf]; omega
    · obtain rfl : j = L.length := by omega
      have HO2 : Hid (wr.ownsRow w.heap.size 2 1 u5 L.length (numC (kys C L))) := by
        have := HO.out
        rw [List.take_length] at this
        exact this
      clear HO
      go_wp2_with fail
      go_ret
      exact ⟨_, rfl, HO2.out, HBR.out⟩
theorem rise_iff (K : List Int) : K.Pairwise (· < ·) ↔ ∀ i, i + 1 < K.length → nth K i < nth K (i + 1) := by
  constructor
  · intro h i hi
    rw [nth_at (by omega), nth_at hi]
    exact List.pairwise_iff_getElem.1 h i (i + 1) (by omega) hi (by omega)
  · intro h
    have h2 : ∀ d i, i + d + 1 < K.length → nth K i < nth K (i + d + 1) := by
      intro d
      induction d with
      | zero => intro i hi; exact h i hi
      | succ d ih =>
        intro i hi
        have h3 := ih i (by omega)
        have h4 := h (i + d + 1) (by omega)
        have e : i + (d + 1) + 1 = i + d + 1 + 1 := by omega
        rw [e]
        omega
    refine List.pairwise_iff_getElem.2 (fun i j hi hj hij => ?_)
    have := h2 (j - i - 1) i (by omega)
    rw [show i + (j - i - 1) + 1 = j by omega, nth_at hi, nth_at hj] at this
    exact this
set_option maxRecDepth 100000 in
set_option maxHeartbeats 1000000 in
theorem rise_any {w : World} {v : Value} {K : List Int} (hv : Nl w v K) (hl : K.length ≤ 100) : Calls Try.prog 26 #[v] w fun e w' => e = .returned (.bool (decide (K.Pairwise (· < ·)))) ∧ Below w.heap.size w w' := by
  obtain ⟨a, cap, rfl⟩ := nl_slice hv
  obtain ⟨_, _, hcell⟩ := nl_cells hv
  have HC : Hid (∀ i, i < K.length → ∃ x, a = some x ∧ x.block < w.heap.size ∧ w.cell? (x.add i) = some (.int .i64 (nth K i))) := hcell
  have HKL : Hid (K.length ≤ 100) := hl
  clear hv hcell
  obtain ⟨b, hb⟩ : ∃ b, decide (K.Pairwise (· < ·)) = b := ⟨_, rfl⟩
  have HBV : Hid (decide (K.Pairwise (· < ·)) = b) := hb
  rw [hb]
  clear hb
  go_enter Try.func26, Try.ntmps26
  go_wp2_with fail
  go_loopg [3] (K.length + 1) (fun gh iv wr => ∃ k : Nat, gh = K.length + 1 - k ∧ (k = 0 ∨ k + 1 ≤ K.length) ∧ iv = .int .i64 ((k : Int) + 1) ∧ Below w.heap.size w wr ∧ ∀ j, j < k → nth K j < nth K (j + 1))
  case atStart => exact ⟨0, by omega, Or.inl rfl, rfl, Below.refl _ _, by simp⟩
  case round =>
    obtain ⟨k, rfl, hk, rfl, hbel, hall⟩ := hrel
    have HBR : Hid (Below w.heap.size w wr) := hbel
    have HA : Hid (∀ j, j < k → nth K j < nth K (j + 1)) := hall
    have hsz := hbel.size
    clear hbel hall
    by_cases hlt : k + 1 < K.length
    · have d1 : decide ((k : Int) + 1 < (K.length : Int)) = true := by simp; omega
      have d1n : decide (k + 1 < K.length) = true := by simpa using hlt
      obtain ⟨x, hx1, hxb, hx⟩ := HC.out (k + 1) hlt
      subst hx1
      obtain ⟨y, hy1, hyb, hy⟩ := HC.out k (by omega)
      have hy2 : x = y := by injection hy1
      subst hy2
      rw [add_pos' _ _ (Nat.succ_pos k)] at hx
      have z1 : wr.cell? ⟨x.block, x.off + (k + 1), none⟩ = some (.int .i64 (nth K (k + 1))) := cell_later (a := ⟨x.block, x.off + (k + 1), none⟩) HBR.out hxb hx
      have z2 : wr.cell? (x.add k) = some (.int .i64 (nth K k)) := cell_later HBR.out (by rw [add_block]; exact hyb) hy
      have hwm : wrap64 ((k : Int) + 1 - 1) = (k : Int) := by have := HKL.out; unfold wrap64; omega
      have hwi : IntKind.i64.wrap ((k : Int) + 1 - 1) = (k : Int) := by have := HKL.out; rw [IntKind.wrap_i64]; omega
      have hwp : wrap64 ((k : Int) + 1 + 1) = (k : Int) + 1 + 1 := by have := HKL.out; unfold wrap64; omega
      have hkl : k < K.length := by omega
      by_cases hc : nth K (k + 1) ≤ nth K k
      · have d2 : decide (nth K (k + 1) ≤ nth K k) = true := by simpa using hc
        have HR : Hid (b = false) := by rw [Hid, ← HBV.out]; exact decide_eq_false (fun h => by have := (rise_iff K).1 h k hlt; omega)
        generalize nth K (k + 1) = p at *
        generalize nth K k = q at *
        clear hx hy hxb hyb hy1 hk
        go_wp2_with fail
        go_quiet (fail)
        go_wp2_with fail
        go_ret
        exact ⟨by rw [HR.out]; rfl, below_drawn HBR.out _⟩
      · have d2 : decide (nth K (k + 1) ≤ nth K k) = false := by simpa using hc
        have HA2 : Hid (∀ j, j < k + 1 → nth K j < nth K (j + 1)) := fun j hj => by
          by_cases h9 : j < k
          · exact HA.out j h9
          · have : j = k := by omega
            subst this
            omega
        have HLT : Hid (k + 1 < K.length) := hlt
        generalize hp9 : nth K (k + 1) = p at *
        generalize hq9 : nth K k = q at *
        clear hx hy hxb hyb hy1 hk hp9 hq9
        go_wp2_with fail
        go_quiet (fail)
        obtain ⟨w2, hw2⟩ : ∃ w2, w2 = wr.drewN nq := ⟨_, rfl⟩
        have HB2 : Hid (Below w.heap.size w w2) := by rw [Hid, hw2]; exact below_drawn HBR.out _
        rw [← hw2]
        clear hw2
        go_wp2_with fail
        go_roundg (K.length + 1 - (k + 1))
        case rel => exact ⟨k + 1, rfl, Or.inr (by have := HLT.out; omega), by first | rfl | (rw [hwp]; simp) | go_num, HB2.out, HA2.out⟩
        case measure => have := HLT.out; omega
    · have d1 : decide ((k : Int) + 1 < (K.length : Int)) = false := by simp; omega
      have d1n : decide (k + 1 < K.length) = false := by simpa using hlt
      have HR : Hid (b = true) := by rw [Hid, ← HBV.out]; exact decide_eq_true ((rise_iff K).2 (fun i hi => HA.out i (by omega)))
      clear hk
      go_wp2_with fail
      go_ret
      exact ⟨by rw [HR.out]; rfl, HBR.out⟩
end Go.Proofs.Ytaffkcliepfcmaa.Ch
