/- The law TableKeeps, walked. -/
import Derived.Test.YtpkbjdpoflipmaaTabO
namespace Go.Proofs.Ytpkbjdpoflipmaa
open Go.ChangeShapes Go.WideShapes Go.ChangeAt Go.RowKit

/-! ### what Get tells behind a Put -/
theorem at_of_same {s t : Tb} (hi : Inv t) {c : Int} (h : ∀ i, (hs : i < s.R.length) → ∃ ht : i < t.R.length, (t.R[i].c = c ↔ s.R[i].c = c)) (hl : ∀ i, s.R.length ≤ i → (ht : i < t.R.length) → t.R[i].c ≠ c) : at? t.R c = at? s.R c := by
  cases ha : at? s.R c with
  | some i =>
    obtain ⟨hs, hc⟩ := at_some ha
    obtain ⟨ht, hiff⟩ := h i hs
    exact hi.at_eq ht (hiff.2 hc)
  | none =>
    apply at_none_of
    intro i ht hc
    by_cases hs : i < s.R.length
    · obtain ⟨_, hiff⟩ := h i hs
      exact at_none ha i hs (hiff.1 hc)
    · exact hl i (by omega) ht hc
theorem getD_set_ne (R : List Wr) (i j : Nat) (x : Wr) (h : i ≠ j) : (R.set i x).getD j noWr = R.getD j noWr := by
  simp only [List.getD_eq_getElem?_getD]
  rw [List.getElem?_set_ne h]
theorem get_other {s : Tb} (hi : Inv s) {c : Int} (v : Int) {d : Int} (hne : c ≠ d) : getY (put s c v) d = getY s d ∧ getV (put s c v) d = getV s d := by
  have hp := put_inv hi c v
  cases hr : right c with
  | false => rw [(put_wrong v hr).1]; exact ⟨rfl, rfl⟩
  | true =>
    cases ha : at? s.R c with
    | some i =>
      obtain ⟨hs, hc⟩ := at_some ha
      have e := (put_old v hr ha).1
      have hat : at? (put s c v).R d = at? s.R d := at_of_same hp (fun j hj => by
        rw [e]
        have hj' : j < (s.R.set i ⟨c, v⟩).length := by simpa using hj
        refine ⟨hj', ?_⟩
        show ((s.R.set i ⟨c, v⟩)[j]'hj').c = d ↔ _
        rw [set_c hs hc j hj']) (fun j hj ht => by
          rw [e] at ht
          have : j < s.R.length := by simpa using ht
          omega)
      unfold getY getV
      rw [hat]
      refine ⟨rfl, ?_⟩
      cases hd : at? s.R d with
      | none => rfl
      | some j =>
        obtain ⟨hj, hdc⟩ := at_some hd
        have hij : i ≠ j := fun e' => by subst e'; exact hne (hc.symm.trans hdc)
        rw [e]
        show ((s.R.set i ⟨c, v⟩).getD j noWr).v = _
        rw [getD_set_ne _ _ _ _ hij]
    | none =>
      by_cases hm : s.m ≤ s.R.length
      · rw [(put_full v hr ha hm).1]; exact ⟨rfl, rfl⟩
      · have e := (put_new v hr ha (by omega)).1
        have hR : (put s c v).R = s.R ++ [⟨c, v⟩] := by rw [e]
        have hat : at? (put s c v).R d = at? s.R d := at_of_same hp (fun j hj => by
          simp only [hR]
          exact ⟨by simp; omega, by rw [List.getElem_append_left hj]⟩) (fun j hj ht => by
            simp only [hR] at ht ⊢
            have : j = s.R.length := by simp at ht; omega
            subst this
            simpa using hne)
        unfold getY getV
        rw [hat]
        refine ⟨rfl, ?_⟩
        cases hd : at? s.R d with
        | none => rfl
        | some j =>
          obtain ⟨hj, hdc⟩ := at_some hd
          rw [hR]
          simp only [List.getD_eq_getElem?_getD]
          rw [List.getElem?_append_left hj]
theorem get_same {s : Tb} (hi : Inv s) {c : Int} (v : Int) (h0 : putE s c = 0) : getY (put s c v) c = true ∧ getV (put s c v) c = v := by
  have hp := put_inv hi c v
  cases hr : right c with
  | false => rw [(put_wrong v hr).2] at h0; cases h0
  | true =>
    cases ha : at? s.R c with
    | some i =>
      obtain ⟨hs, hc⟩ := at_some ha
      have hR : (put s c v).R = s.R.set i ⟨c, v⟩ := by rw [(put_old v hr ha).1]
      have hlt : i < (put s c v).R.length := by rw [hR]; simpa using hs
      have hat : at? (put s c v).R c = some i := hp.at_eq hlt (by simp only [hR]; simp)
      unfold getY getV
      rw [hat, hR]
      exact ⟨rfl, by simp [hs]⟩
    | none =>
      by_cases hm : s.m ≤ s.R.length
      · rw [(put_full v hr ha hm).2] at h0; cases h0
      · have hR : (put s c v).R = s.R ++ [⟨c, v⟩] := by rw [(put_new v hr ha (by omega)).1]
        have hlt : s.R.length < (put s c v).R.length := by rw [hR]; simp
        have hat : at? (put s c v).R c = some s.R.length := hp.at_eq hlt (by simp only [hR]; simp)
        unfold getY getV
        rw [hat, hR]
        exact ⟨rfl, by simp⟩

/-! ### cells that are known -/
def cellsC (R : List Wr) : List Value := R.map fun x => .int .i64 x.c
theorem cellsC_get (R : List Wr) (i : Nat) (h : i < R.length) : (cellsC R)[i]? = some (.int .i64 (R.getD i noWr).c) := by simp [cellsC, h]
theorem cellsC_len (R : List Wr) : (cellsC R).length = R.length := by simp [cellsC]
def kn (R : List Wr) (c : Int) (j : Nat) : Bool := (R.take j).any (fun x => x.c == c)
theorem kn_succ (R : List Wr) (c : Int) (j : Nat) (h : j < R.length) : kn R c (j + 1) = (kn R c j || (R.getD j noWr).c == c) := by
  unfold kn
  rw [List.take_add_one, List.any_append]
  simp [h]
theorem kn_all (R : List Wr) (c : Int) : kn R c R.length = (at? R c).isSome := by
  unfold kn at?
  rw [List.take_length, List.findIdx?_isSome]
/-- Both, while puts are played. -/
structure KWay (w0 w : World) (B m : Nat) (s : Tb) (v : Value) : Prop where
  one : TOne w0 w B m s
  cells : w.ownsRow w0.heap.size 3 1 v s.R.length (cellsC s.R)
theorem KWay.drewN {w0 w : World} {B m : Nat} {s : Tb} {v : Value} (h : KWay w0 w B m s v) (n : Nat) : KWay w0 (w.drewN n) B m s v :=
  ⟨⟨h.one.tab, h.one.inv, h.one.m, h.one.lo, below_drawn h.one.bel n⟩, own_keep h.cells ((Keep.refl [] _).drewN n) (fun _ _ => by simp)⟩
/-- Behind a Put that leaves the cells as they are. -/
theorem KWay.put_same {w0 w w' : World} {B m : Nat} {s : Tb} {v : Value} (h : KWay w0 w B m s v) (c z : Int) (ht : TabAt w' B (put s c z)) (hk : Keep [B] w w') (hc : cellsC (put s c z).R = cellsC s.R) : KWay w0 w' B m (put s c z) v := by
  have hl : (put s c z).R.length = s.R.length := by rw [← cellsC_len, hc, cellsC_len]
  refine ⟨h.one.next ht (put_inv h.one.inv _ _) (put_keeps _ _ _).1 hk, ?_⟩
  rw [hc, hl]
  exact own_keep h.cells hk (fun b hb hm => by
    simp only [List.mem_cons, List.not_mem_nil, or_false] at hm
    subst hm
    exact own_ne h.cells h.one.tab (by decide) hb)

set_option maxRecDepth 100000 in
theorem tkeeps_no (w : World) (m c : Int) (va : Option Addr) (n vcap : Nat) (h : ¬ (1 ≤ m ∧ m ≤ 24)) :
    Calls Try.prog 4 #[.int .i64 m, .slice va n vcap, .int .i64 c] w fun e w' => e = .returned (.bool true) ∧ Below w.heap.size w w' := by
  have HN : Hid (∀ w : World, Calls Try.prog 9 #[.int .i64 m] w fun e w' => e = .returned (.tuple #[.pointer none, .int .i64 1]) ∧ w' = w) := fun w => tnew_no w m h
  by_cases h1 : m < 1
  · clear h
    go_enter Try.func4, Try.ntmps4
    go_wp2_with fail
    refine (HN.out _).mono ?_
    rintro e w1 ⟨rfl, rfl⟩
    go_wp2
    go_ret
    exact ⟨rfl, Below.refl _ _⟩
  · have h2 : 24 < m := by omega
    clear h
    go_enter Try.func4, Try.ntmps4
    go_wp2_with fail
    refine (HN.out _).mono ?_
    rintro e w1 ⟨rfl, rfl⟩
    go_wp2
    go_ret
    exact ⟨rfl, Below.refl _ _⟩

theorem cells_old {s : Tb} {c : Int} (z : Int) (hr : right c = true) {i : Nat} (ha : at? s.R c = some i) : cellsC (put s c z).R = cellsC s.R := by
  obtain ⟨hs, hc⟩ := at_some ha
  rw [(put_old z hr ha).1]
  show cellsC (s.R.set i ⟨c, z⟩) = _
  unfold cellsC
  apply List.ext_getElem?
  intro j
  rw [List.getElem?_map, List.getElem?_map]
  by_cases h : j < s.R.length
  · have hj' : j < (s.R.set i ⟨c, z⟩).length := by simpa using h
    rw [List.getElem?_eq_getElem hj', List.getElem?_eq_getElem h, Option.map_some, Option.map_some, set_c hs hc j hj']
  · rw [List.getElem?_eq_none (by simpa using h), List.getElem?_eq_none (by omega)]

set_option maxRecDepth 100000 in
set_option maxHeartbeats 3200000 in
theorem tkeeps_yes (w : World) (m : Nat) (h1 : 1 ≤ m) (h24 : m ≤ 24) (u : Value) (nu : Nat) (fu : Nat → Nat → Int) (hu : CLst w u 2 nu fu) (d : Int) :
    Calls Try.prog 4 #[.int .i64 (m : Int), u, .int .i64 d] w fun e w' => e = .returned (.bool true) ∧ Below w.heap.size w w' := by
  obtain ⟨i0, hinf, hz0, hz1, hz2⟩ := info_parts info_int
  have HN : Hid (∀ w : World, Calls Try.prog 9 #[.int .i64 (m : Int)] w fun e w' => ∃ B, e = .returned (.tuple #[.pointer (some ⟨B, 0, none⟩), .int .i64 0]) ∧ w.heap.size ≤ B ∧ TabAt w' B (empty m) ∧ Below w.heap.size w w') := fun w => tnew_yes w m h1 h24
  have HM : Hid (1 ≤ m ∧ m ≤ 24) := ⟨h1, h24⟩
  obtain ⟨ua, ucap, rfl, hbigu, hlu⟩ := hu
  have HCU : Hid (∀ i, i < nu → ∃ x, ua = some x ∧ x.block < w.heap.size ∧ ∀ j, j < 2 → w.cell? ((x.add (i * 2)).add j) = some (.int .i64 (fu i j))) := by
    intro i hi
    rcases hlu with h0 | ⟨x, hx, hxb, hcc⟩
    · exact absurd hi (by omega)
    · exact ⟨x, hx, hxb, hcc i hi⟩
  clear hlu
  go_enter Try.func4, Try.ntmps4
  go_wp2_with fail
  refine (HN.out _).mono ?_
  rintro e w1 ⟨B, rfl, hB, ht, hb1⟩
  have HW1 : Hid (KWay w w1 B m (empty m) (.slice none 0 0)) := ⟨⟨ht, empty_inv HM.out.1 HM.out.2, rfl, hB, hb1⟩, World.ownsRow_nil _ _ _ _⟩
  clear hB ht hb1
  go_wp2
  go_loopw [9, 10, 11, 12] (fun cv tv lv iv wr => ∃ i : Nat, i ≤ nu ∧ iv = .int .i64 i ∧ ∃ s, tv = .bool (getY s d) ∧ lv = .int .i64 (getV s d) ∧ KWay w wr B m s cv) (fun _ _ _ iv _ => nu - (intOf iv).toNat)
  case atStart => exact ⟨0, Nat.zero_le _, rfl, _, rfl, rfl, HW1.out⟩
  case round =>
    obtain ⟨i, hi, rfl, s, rfl, rfl, hway⟩ := hrel
    have HW : Hid (KWay w wr B m s u9) := hway
    have hl24 : s.R.length ≤ 24 := Nat.le_trans hway.one.inv.len hway.one.inv.m24
    obtain ⟨ca, cc, rfl⟩ := own_slice hway.cells
    clear hway HW1
    by_cases hlt : i < nu
    · obtain ⟨x, rfl, hxb, hrow⟩ := HCU.out i hlt
      have HTW : Hid (∀ w' : World, Below w.heap.size w w' → w'.cell? (x.add (i * 2)) = some (.int .i64 (fu i 0)) ∧ w'.cell? ⟨(x.add (i * 2)).block, (x.add (i * 2)).off + 1, none⟩ = some (.int .i64 (fu i 1))) := fun w' hb => CLst.two (w := w') i (fun j hj => cell_later hb (by rw [add_block, add_block]; exact hxb) (hrow j hj))
      clear hrow
      have hd : decide ((i : Int) < (nu : Int)) = true := by simp; omega
      have hx1 : (i : Int) < (nu : Int) := by omega
      generalize fu i 0 = z0 at *
      generalize fu i 1 = z1 at *
      have HKS : Hid (∀ j, j < s.R.length → kn s.R z0 (j + 1) = (kn s.R z0 j || (s.R.getD j noWr).c == z0)) := fun j hj => kn_succ s.R z0 j hj
      have HK0 : Hid (kn s.R z0 0 = false) := rfl
      have HKA : Hid (kn s.R z0 s.R.length = (at? s.R z0).isSome) := kn_all s.R z0
      have HCC : Hid (∀ q, q < s.R.length → (cellsC s.R)[q]? = some (.int .i64 (s.R.getD q noWr).c)) := fun q hq => cellsC_get s.R q hq
      obtain ⟨nR, hnR⟩ : ∃ nR, nR = s.R.length := ⟨_, rfl⟩
      rw [← hnR] at HKS HKA HCC hl24 HW ⊢
      have HNR : Hid (nR = s.R.length) := hnR
      clear hnR
      obtain ⟨y0, hy0⟩ : ∃ y0, y0 = wr := ⟨_, rfl⟩
      rw [← hy0] at HW ⊢
      clear hy0
      go_wp2
      go_loopw [13, 14] (fun kv jv wr => ∃ j : Nat, j ≤ nR ∧ jv = .int .i64 j ∧ kv = .bool (kn s.R z0 j) ∧ ∃ q, wr = y0.drewN q) (fun _ jv _ => nR - (intOf jv).toNat)
      case atStart => exact ⟨0, Nat.zero_le _, rfl, rfl, 0, rfl⟩
      case round =>
        obtain ⟨j, hj, rfl, rfl, hwr⟩ := hrel
        have HWR : Hid (∃ q, wr = y0.drewN q) := hwr
        have HYW : Hid (KWay w wr B m s (.slice ca nR cc)) := by obtain ⟨q, e⟩ := hwr; rw [e]; exact HW.out.drewN q
        clear hwr
        obtain ⟨d0, d1⟩ := HTW.out wr HYW.out.one.bel
        by_cases hlt2 : j < nR
        · have hdj : decide ((j : Int) < (nR : Int)) = true := by simp; omega
          have hxj : (j : Int) < (nR : Int) := by omega
          have hcells := HYW.out.cells
          rw [← HNR.out] at hcells
          obtain ⟨g, cap, hform, _, _⟩ := hcells.form (by omega)
          obtain ⟨rfl, _, rfl⟩ : ca = some ⟨g, 0, none⟩ ∧ nR = nR ∧ cc = cap := by simpa using hform
          have hcq := own_cells hcells _ _ (HCC.out j hlt2)
          have HKJ : Hid (kn s.R z0 (j + 1) = (kn s.R z0 j || (s.R.getD j noWr).c == z0)) := HKS.out j hlt2
          clear hform hcells
          generalize (s.R.getD j noWr).c = y at *
          generalize kn s.R z0 j = kb at *
          cases kb with
          | true =>
            rw [Bool.true_or] at HKJ
            go_wp2
            go_quiet (fail)
            obtain ⟨x5, hx5⟩ : ∃ x5, x5 = wr.drewN nq := ⟨_, rfl⟩
            have HW6 : Hid (∃ q, x5 = y0.drewN q) := by obtain ⟨n', e'⟩ := HWR.out; exact ⟨_, by rw [hx5, e']; exact World.drewN_drewN _ _ _⟩
            rw [← hx5]
            clear hx5 hcq d0 d1
            go_wp2
            go_roundw
            case rel => exact ⟨j + 1, by omega, by go_num, by rw [HKJ.out], HW6.out⟩
            case measure => simp [intOf]; omega
          | false =>
            rw [Bool.false_or] at HKJ
            go_wp2
            go_quiet (fail)
            obtain ⟨x5, hx5⟩ : ∃ x5, x5 = wr.drewN nq := ⟨_, rfl⟩
            have HW6 : Hid (∃ q, x5 = y0.drewN q) := by obtain ⟨n', e'⟩ := HWR.out; exact ⟨_, by rw [hx5, e']; exact World.drewN_drewN _ _ _⟩
            rw [← hx5]
            clear hx5 hcq d0 d1
            go_wp2
            go_roundw
            case rel => exact ⟨j + 1, by omega, by go_num, by rw [HKJ.out], HW6.out⟩
            case measure => simp [intOf]; omega
        · obtain rfl : nR = j := by omega
          rw [HKA.out]
          clear hlt2 hj HKS HK0 HKA
          obtain ⟨y1, hy1⟩ : ∃ y1, y1 = wr := ⟨_, rfl⟩
          rw [← hy1] at HYW ⊢
          rw [← hy1] at d0 d1
          clear hy1 HWR HW
          by_cases hc0 : 0 ≤ z0
          · by_cases hc1 : z0 < 1024
            · have hr : right z0 = true := by simp [right]; omega
              have e0 : decide (0 ≤ z0) = true := by simpa using hc0
              have e1 : decide (z0 < 1024) = true := by simpa using hc1
              cases ha : at? s.R z0 with
              | some i1 =>
                rw [Option.isSome_some]
                have HPE : Hid (putE s z0 = 0) := (put_old z1 hr ha).2
                have HPU : Hid (Calls Try.prog 18 #[.pointer (some ⟨B, 0, none⟩), .int .i64 z0, .int .i64 z1] y1.drew fun e w' => e = .returned (.int .i64 0) ∧ TabAt w' B (put s z0 z1) ∧ Keep [B] y1.drew w') := by
                  have := put_any (w := y1.drew) HYW.out.one.tab HYW.out.one.inv z0 z1
                  rw [HPE.out] at this
                  exact this
                have HNX : Hid (∀ w', TabAt w' B (put s z0 z1) → Keep [B] y1.drew w' → KWay w w' B m (put s z0 z1) (.slice ca nR cc)) := fun w' ht hk => HYW.out.put_same z0 z1 ht (((Keep.refl [B] y1).drewN 1).trans hk (fun b hb => Or.inl hb)) (cells_old z1 hr ha)
                go_wp2
                go_region_with ((go_at_call 18; refine HPU.out.mono ?_; rintro e y2 ⟨rfl, ht, hk⟩))
                all_goals
                  have HY2 : Hid (KWay w y2 B m (put s z0 z1) (.slice ca nR cc)) := HNX.out _ ht hk
                  obtain ⟨d0', d1'⟩ := HTW.out y2 HY2.out.one.bel
                  clear ht hk d0 d1
                  by_cases hzd : z0 = d
                  · have ezd : (z0 == d) = true := by simpa using hzd
                    have HG : Hid (getY (put s z0 z1) d = true ∧ getV (put s z0 z1) d = z1) := by rw [← hzd]; exact get_same HYW.out.one.inv z1 HPE.out
                    go_wp2
                    go_roundw
                    case rel => exact ⟨i + 1, by omega, by go_num, put s z0 z1, by rw [HG.out.1], by rw [HG.out.2], HY2.out⟩
                    case measure => simp [intOf]; omega
                  · have ezd : (z0 == d) = false := by simpa using hzd
                    have HG : Hid (getY (put s z0 z1) d = getY s d ∧ getV (put s z0 z1) d = getV s d) := get_other HYW.out.one.inv z1 hzd
                    go_wp2
                    go_roundw
                    case rel => exact ⟨i + 1, by omega, by go_num, put s z0 z1, by rw [HG.out.1], by rw [HG.out.2], HY2.out⟩
                    case measure => simp [intOf]; omega
              | none =>
                rw [Option.isSome_none]
                by_cases hm : s.m ≤ s.R.length
                · have hsm := HYW.out.one.m
                  have hnm : ¬ nR < m := by rw [HNR.out]; omega
                  have edm : decide ((nR : Int) < (m : Int)) = false := by simp; omega
                  have HPE : Hid (putE s z0 = 2) := (put_full z1 hr ha hm).2
                  have HPU : Hid (Calls Try.prog 18 #[.pointer (some ⟨B, 0, none⟩), .int .i64 z0, .int .i64 z1] y1.drew fun e w' => e = .returned (.int .i64 2) ∧ TabAt w' B (put s z0 z1) ∧ Keep [B] y1.drew w') := by
                    have := put_any (w := y1.drew) HYW.out.one.tab HYW.out.one.inv z0 z1
                    rw [HPE.out] at this
                    exact this
                  have HNX : Hid (∀ w', TabAt w' B (put s z0 z1) → Keep [B] y1.drew w' → KWay w w' B m (put s z0 z1) (.slice ca nR cc)) := fun w' ht hk => HYW.out.put_same z0 z1 ht (((Keep.refl [B] y1).drewN 1).trans hk (fun b hb => Or.inl hb)) (by rw [(put_full z1 hr ha hm).1])
                  go_wp2
                  go_region_with ((go_at_call 18; refine HPU.out.mono ?_; rintro e y2 ⟨rfl, ht, hk⟩))
                  all_goals
                    have HY2 : Hid (KWay w y2 B m (put s z0 z1) (.slice ca nR cc)) := HNX.out _ ht hk
                    obtain ⟨d0', d1'⟩ := HTW.out y2 HY2.out.one.bel
                    clear ht hk d0 d1
                    have HG : Hid (put s z0 z1 = s) := (put_full z1 hr ha hm).1
                    go_wp2
                    go_roundw
                    case rel => exact ⟨i + 1, by omega, by go_num, put s z0 z1, by rw [HG.out], by rw [HG.out], HY2.out⟩
                    case measure => simp [intOf]; omega
                · have hsm := HYW.out.one.m
                  have hnm : nR < m := by rw [HNR.out]; omega
                  have edm : decide ((nR : Int) < (m : Int)) = true := by simp; omega
                  have HPE : Hid (putE s z0 = 0) := (put_new z1 hr ha (by omega)).2
                  have HPU : Hid (Calls Try.prog 18 #[.pointer (some ⟨B, 0, none⟩), .int .i64 z0, .int .i64 z1] y1.drew fun e w' => e = .returned (.int .i64 0) ∧ TabAt w' B (put s z0 z1) ∧ Keep [B] y1.drew w') := by
                    have := put_any (w := y1.drew) HYW.out.one.tab HYW.out.one.inv z0 z1
                    rw [HPE.out] at this
                    exact this
                  have HNX : Hid (∀ w', TabAt w' B (put s z0 z1) → Keep [B] y1.drew w' → TOne w w' B m (put s z0 z1) ∧ w'.ownsRow w.heap.size 3 1 (.slice ca nR cc) nR (cellsC s.R)) := fun w' ht hk => by
                    have hk' : Keep [B] y1 w' := ((Keep.refl [B] y1).drewN 1).trans hk (fun b hb => Or.inl hb)
                    refine ⟨HYW.out.one.next ht (put_inv HYW.out.one.inv _ _) (put_keeps _ _ _).1 hk', ?_⟩
                    have hcs := HYW.out.cells
                    rw [← HNR.out] at hcs
                    exact own_keep hcs hk' (fun b hb hm => by
                      simp only [List.mem_cons, List.not_mem_nil, or_false] at hm
                      subst hm
                      exact own_ne hcs HYW.out.one.tab (by decide) hb)
                  go_wp2
                  go_region_with ((go_at_call 18; refine HPU.out.mono ?_; rintro e y2 ⟨rfl, ht, hk⟩))
                  all_goals
                    have HY2 : Hid (TOne w y2 B m (put s z0 z1) ∧ y2.ownsRow w.heap.size 3 1 (.slice ca nR cc) nR (cellsC s.R)) := HNX.out _ ht hk
                    obtain ⟨d0', d1'⟩ := HTW.out y2 HY2.out.1.bel
                    clear ht hk d0 d1
                    have hsz2 : w.heap.size ≤ y2.heap.size := HY2.out.1.bel.size
                    go_wp2_with (at_builtin; refine wpList_append_lies _ rfl _ _ 37 rfl w.heap.size 3 i0 _ 1 8 Try.underlying37 hinf hz0 hz1 hz2 rfl (by decide) _ _ _ rfl (HY2.out.2.alloc _) ⟨y2.heap.size, 0, none⟩ 1 1 [.int .i64 z0] rfl rfl ?g1 ?g2 (by decide) ?g3 ?g4 ?g5 _ rfl ?_)
                    case g1 => exact World.news_of_block (cs := #[.int .i64 z0]) (t := 3) (fr := (0, 0)) (heap_alloc_new y2 _)
                    case g2 => simp [Value.oneCell']
                    case g3 => unfold maxLen; omega
                    case g4 => omega
                    case g5 => first | omega | (simp; omega)
                    intro gg cap' y3 hown1 hgrow hat _
                    have HY3 : Hid (KWay w y3 B m (put s z0 z1) (.slice (some ⟨gg, 0, none⟩) (nR + 1) cap')) := by
                      have hR : (put s z0 z1).R = s.R ++ [⟨z0, z1⟩] := by rw [(put_new z1 hr ha (by omega)).1]
                      refine ⟨⟨grown_block HY2.out.1.tab (own_ne HY2.out.2 HY2.out.1.tab (by decide)) hgrow, HY2.out.1.inv, HY2.out.1.m, HY2.out.1.lo, (HY2.out.1.bel.alloc hsz2 _).grown hgrow (by simp; omega) (fun b hb => (own_block HY2.out.2 b hb).1)⟩, ?_⟩
                      have e1 : (put s z0 z1).R.length = nR + 1 := by rw [hR, HNR.out]; simp
                      have e2 : cellsC (put s z0 z1).R = cellsC s.R ++ [.int .i64 z0] := by rw [hR]; simp [cellsC]
                      rw [e1, e2]
                      exact hown1
                    obtain ⟨d0'', d1''⟩ := HTW.out y3 HY3.out.one.bel
                    clear hown1 hgrow hat d0' d1'
                    by_cases hzd : z0 = d
                    · have ezd : (z0 == d) = true := by simpa using hzd
                      have HG : Hid (getY (put s z0 z1) d = true ∧ getV (put s z0 z1) d = z1) := by rw [← hzd]; exact get_same HYW.out.one.inv z1 HPE.out
                      go_wp2
                      go_roundw
                      case rel => exact ⟨i + 1, by omega, by go_num, put s z0 z1, by rw [HG.out.1], by rw [HG.out.2], HY3.out⟩
                      case measure => simp [intOf]; omega
                    · have ezd : (z0 == d) = false := by simpa using hzd
                      have HG : Hid (getY (put s z0 z1) d = getY s d ∧ getV (put s z0 z1) d = getV s d) := get_other HYW.out.one.inv z1 hzd
                      go_wp2
                      go_roundw
                      case rel => exact ⟨i + 1, by omega, by go_num, put s z0 z1, by rw [HG.out.1], by rw [HG.out.2], HY3.out⟩
                      case measure => simp [intOf]; omega
            · have hr : right z0 = false := by simp [right]; omega
              have e0 : decide (0 ≤ z0) = true := by simpa using hc0
              have e1 : decide (z0 < 1024) = false := by simpa using hc1
              generalize (at? s.R z0).isSome = kb at *
              have HPE : Hid (putE s z0 = 1) := (put_wrong z1 hr).2
              have HPU : Hid (Calls Try.prog 18 #[.pointer (some ⟨B, 0, none⟩), .int .i64 z0, .int .i64 z1] y1.drew fun e w' => e = .returned (.int .i64 1) ∧ TabAt w' B (put s z0 z1) ∧ Keep [B] y1.drew w') := by
                have := put_any (w := y1.drew) HYW.out.one.tab HYW.out.one.inv z0 z1
                rw [HPE.out] at this
                exact this
              have HNX : Hid (∀ w', TabAt w' B (put s z0 z1) → Keep [B] y1.drew w' → KWay w w' B m (put s z0 z1) (.slice ca nR cc)) := fun w' ht hk => HYW.out.put_same z0 z1 ht (((Keep.refl [B] y1).drewN 1).trans hk (fun b hb => Or.inl hb)) (by rw [(put_wrong z1 hr).1])
              go_wp2
              go_region_with ((go_at_call 18; refine HPU.out.mono ?_; rintro e y2 ⟨rfl, ht, hk⟩))
              all_goals
                have HY2 : Hid (KWay w y2 B m (put s z0 z1) (.slice ca nR cc)) := HNX.out _ ht hk
                obtain ⟨d0', d1'⟩ := HTW.out y2 HY2.out.one.bel
                clear ht hk d0 d1
                have HG : Hid (put s z0 z1 = s) := (put_wrong z1 hr).1
                go_wp2
                go_roundw
                case rel => exact ⟨i + 1, by omega, by go_num, put s z0 z1, by rw [HG.out], by rw [HG.out], HY2.out⟩
                case measure => simp [intOf]; omega
          · have hr : right z0 = false := by simp [right]; omega
            have e0 : decide (0 ≤ z0) = false := by simpa using hc0
            generalize (at? s.R z0).isSome = kb at *
            have HPE : Hid (putE s z0 = 1) := (put_wrong z1 hr).2
            have HPU : Hid (Calls Try.prog 18 #[.pointer (some ⟨B, 0, none⟩), .int .i64 z0, .int .i64 z1] y1.drew fun e w' => e = .returned (.int .i64 1) ∧ TabAt w' B (put s z0 z1) ∧ Keep [B] y1.drew w') := by
              have := put_any (w := y1.drew) HYW.out.one.tab HYW.out.one.inv z0 z1
              rw [HPE.out] at this
              exact this
            have HNX : Hid (∀ w', TabAt w' B (put s z0 z1) → Keep [B] y1.drew w' → KWay w w' B m (put s z0 z1) (.slice ca nR cc)) := fun w' ht hk => HYW.out.put_same z0 z1 ht (((Keep.refl [B] y1).drewN 1).trans hk (fun b hb => Or.inl hb)) (by rw [(put_wrong z1 hr).1])
            go_wp2
            go_region_with ((go_at_call 18; refine HPU.out.mono ?_; rintro e y2 ⟨rfl, ht, hk⟩))
            all_goals
              have HY2 : Hid (KWay w y2 B m (put s z0 z1) (.slice ca nR cc)) := HNX.out _ ht hk
              obtain ⟨d0', d1'⟩ := HTW.out y2 HY2.out.one.bel
              clear ht hk d0 d1
              have HG : Hid (put s z0 z1 = s) := (put_wrong z1 hr).1
              go_wp2
              go_roundw
              case rel => exact ⟨i + 1, by omega, by go_num, put s z0 z1, by rw [HG.out], by rw [HG.out], HY2.out⟩
              case measure => simp [intOf]; omega
    · obtain rfl : i = nu := by omega
      go_wp2_with fail
      refine (get_any HW.out.one.tab HW.out.one.inv d).mono ?_
      rintro e y1 ⟨rfl, nd, hy1⟩
      have HT1 : Hid (KWay w y1 B m s (.slice ca s.R.length cc)) := by rw [hy1]; exact HW.out.drewN nd
      clear hy1
      go_wp2_with fail
      refine (len_any HT1.out.one.tab).mono ?_
      rintro e y2 ⟨rfl, rfl⟩
      go_wp2
      go_ret
      exact ⟨by simp, HT1.out.one.bel⟩
end Go.Proofs.Ytpkbjdpoflipmaa
