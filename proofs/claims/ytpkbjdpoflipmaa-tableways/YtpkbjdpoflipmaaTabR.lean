/- The law TableWays, walked. -/
import Derived.Test.YtpkbjdpoflipmaaTabO
namespace Go.Proofs.Ytpkbjdpoflipmaa
open Go.ChangeShapes Go.WideShapes Go.ChangeAt Go.RowKit

/-- How many of the first slots have a cell. -/
def cntUp (s : Tb) (j : Nat) : Nat := (List.range j).countP (fun q => s.P q != 0)
theorem cntUp_succ (s : Tb) (j : Nat) : cntUp s (j + 1) = cntUp s j + if s.P j = 0 then 0 else 1 := by
  unfold cntUp
  rw [List.range_succ, List.countP_append]
  by_cases h : s.P j = 0 <;> simp [h]
theorem cntUp_le (s : Tb) (j : Nat) : cntUp s j ≤ j := by
  have := List.countP_le_length (p := fun q => s.P q != 0) (l := List.range j)
  simpa [cntUp] using this
theorem Inv.slot {s : Tb} (h : Inv s) {q : Nat} (hq : q < 2 ^ s.k) (h0 : s.P q ≠ 0) : 0 ≤ slotV s q := by
  have hl := h.lo q hq
  have := (h.right (s.P q - 1) (by omega)).1
  have hlt : s.P q - 1 < s.R.length := by omega
  unfold slotV
  rw [if_neg h0]
  simpa [hlt] using this
theorem slot_none {s : Tb} {q : Nat} (h0 : s.P q = 0) : slotV s q = -1 := by simp [slotV, h0]
/-- A row's way: where it stands, and nothing is empty ahead. -/
theorem Inv.reach {s : Tb} (h : Inv s) {i : Nat} (hi : i < s.R.length) : ∃ d, d < 2 ^ s.k ∧ slotV s ((Proofs.Ytpkbjdpoflipmaa.fst s.k (s.R.getD i noWr).c + d) % 2 ^ s.k) = (s.R.getD i noWr).c ∧ ∀ e, e < d → 0 ≤ slotV s ((Proofs.Ytpkbjdpoflipmaa.fst s.k (s.R.getD i noWr).c + e) % 2 ^ s.k) := by
  obtain ⟨d, hd, h1, h2⟩ := h.way i hi
  have e : (s.R.getD i noWr) = s.R[i] := by simp [hi]
  rw [e]
  refine ⟨d, hd, ?_, fun e he => h.slot (Nat.mod_lt _ (pw_pos _)) (h2 e he)⟩
  unfold slotV
  rw [h1, if_neg (by omega)]
  simp [hi]
/-- What is there while the ways are walked. -/
structure Ways (w0 w : World) (b : Nat) (vs vl q : Value) (s : Tb) (m : Nat) (G : List Nat) : Prop where
  slots : w.ownsRow b 3 1 vs (2 ^ s.k) (slotsC s)
  rows : w.ownsRow b 41 2 vl s.R.length (rowsC s.R)
  ref : RTab w w0.heap.size q (empty m) G
  bel : Below w0.heap.size w0 w
theorem Ways.drewN {w0 w : World} {b : Nat} {vs vl q : Value} {s : Tb} {m : Nat} {G : List Nat} (h : Ways w0 w b vs vl q s m G) (n : Nat) : Ways w0 (w.drewN n) b vs vl q s m G :=
  ⟨own_keep h.slots ((Keep.refl [] _).drewN n) (fun _ _ => by simp), own_keep h.rows ((Keep.refl [] _).drewN n) (fun _ _ => by simp), h.ref.keep ((Keep.refl [] _).drewN n) (fun _ _ => by simp), below_drawn h.bel n⟩

set_option maxRecDepth 100000 in
theorem tways_no (w : World) (m : Int) (va : Option Addr) (n vcap : Nat) (h : ¬ (1 ≤ m ∧ m ≤ 24)) :
    Calls Try.prog 5 #[.int .i64 m, .slice va n vcap] w fun e w' => e = .returned (.bool true) ∧ Below w.heap.size w w' := by
  have HN : Hid (∀ w : World, Calls Try.prog 9 #[.int .i64 m] w fun e w' => e = .returned (.tuple #[.pointer none, .int .i64 1]) ∧ w' = w) := fun w => tnew_no w m h
  have HR : Hid (∀ w : World, Calls Try.prog 10 #[.int .i64 m] w fun e w' => e = .returned (.tuple #[.pointer none, .int .i64 1]) ∧ w' = w) := fun w => rnew_no w m h
  clear h
  go_enter Try.func5, Try.ntmps5
  go_wp2_with fail
  refine (HN.out _).mono ?_
  rintro e w1 ⟨rfl, rfl⟩
  go_wp2_with fail
  refine (HR.out _).mono ?_
  rintro e w2 ⟨rfl, rfl⟩
  go_wp2
  go_ret
  exact ⟨rfl, Below.refl _ _⟩

set_option maxRecDepth 100000 in
set_option maxHeartbeats 3200000 in
theorem tways_yes (w : World) (m : Nat) (h1 : 1 ≤ m) (h24 : m ≤ 24) (u : Value) (nu : Nat) (fu : Nat → Nat → Int) (hu : CLst w u 2 nu fu) :
    Calls Try.prog 5 #[.int .i64 (m : Int), u] w fun e w' => e = .returned (.bool true) ∧ Below w.heap.size w w' := by
  have HN : Hid (∀ w : World, Calls Try.prog 9 #[.int .i64 (m : Int)] w fun e w' => ∃ B, e = .returned (.tuple #[.pointer (some ⟨B, 0, none⟩), .int .i64 0]) ∧ w.heap.size ≤ B ∧ TabAt w' B (empty m) ∧ Below w.heap.size w w') := fun w => tnew_yes w m h1 h24
  have HR : Hid (∀ w : World, Calls Try.prog 10 #[.int .i64 (m : Int)] w fun e w' => ∃ p G, e = .returned (.tuple #[p, .int .i64 0]) ∧ RTab w' w.heap.size p (empty m) G ∧ Below w.heap.size w w') := fun w => rnew_yes w m h1 h24
  have HM : Hid (1 ≤ m ∧ m ≤ 24) := ⟨h1, h24⟩
  obtain ⟨ua, ucap, rfl, hbigu, hlu⟩ := hu
  have HCU : Hid (∀ i, i < nu → ∃ x, ua = some x ∧ x.block < w.heap.size ∧ ∀ j, j < 2 → w.cell? ((x.add (i * 2)).add j) = some (.int .i64 (fu i j))) := by
    intro i hi
    rcases hlu with h0 | ⟨x, hx, hxb, hcc⟩
    · exact absurd hi (by omega)
    · exact ⟨x, hx, hxb, hcc i hi⟩
  clear hlu h1 h24
  go_enter Try.func5, Try.ntmps5
  go_wp2_with fail
  refine (HN.out _).mono ?_
  rintro e w1 ⟨B, rfl, hB, ht, hb1⟩
  have HW1 : Hid (w.heap.size ≤ B ∧ TabAt w1 B (empty m) ∧ Below w.heap.size w w1) := ⟨hB, ht, hb1⟩
  clear hB ht hb1
  go_wp2_with fail
  refine (HR.out _).mono ?_
  rintro e w2 ⟨q0, G, rfl, hr, hb2⟩
  obtain ⟨X, rfl⟩ := hr.ptr
  have HW2 : Hid (TOne w w2 B m (empty m) ∧ RTab w2 w.heap.size (.pointer (some ⟨X, 0, none⟩)) (empty m) G) := by
    obtain ⟨k1, k2⟩ := TWay.make HM.out.1 HM.out.2 HW1.out.1 HW1.out.2.1 HW1.out.2.2 hr hb2
    exact ⟨⟨k1.tab, k1.inv, rfl, k1.lo, k2⟩, k1.ref⟩
  have HBG : Hid (B ∉ G) := fun hm => by have := (hr.lt B hm).1; have := heap_lt HW1.out.2.1; omega
  clear hr hb2 HW1
  go_wp2
  go_loopw [9] (fun iv wr => ∃ i : Nat, i ≤ nu ∧ iv = .int .i64 i ∧ ∃ s, TOne w wr B m s ∧ RTab wr w.heap.size (.pointer (some ⟨X, 0, none⟩)) (empty m) G) (fun iv _ => nu - (intOf iv).toNat)
  case atStart => exact ⟨0, Nat.zero_le _, rfl, _, HW2.out⟩
  case round =>
    obtain ⟨i, hi, rfl, s, hone⟩ := hrel
    have HW : Hid (TOne w wr B m s ∧ RTab wr w.heap.size (.pointer (some ⟨X, 0, none⟩)) (empty m) G) := hone
    clear hone HW2
    by_cases hlt : i < nu
    · obtain ⟨x, rfl, hxb, hrow⟩ := HCU.out i hlt
      obtain ⟨d0, d1⟩ := CLst.two (w := wr) i (fun j hj => cell_later HW.out.1.bel (by rw [add_block, add_block]; exact hxb) (hrow j hj))
      clear hrow
      have hd : decide ((i : Int) < (nu : Int)) = true := by simp; omega
      have hx1 : (i : Int) < (nu : Int) := by omega
      have HPU : Hid (Calls Try.prog 18 #[.pointer (some ⟨B, 0, none⟩), .int .i64 (fu i 0), .int .i64 (fu i 1)] wr.drew fun e w' => e = .returned (.int .i64 (putE s (fu i 0))) ∧ TabAt w' B (put s (fu i 0) (fu i 1)) ∧ Keep [B] wr.drew w') := put_any (w := wr.drew) HW.out.1.tab HW.out.1.inv _ _
      have HNX : Hid (∀ w', TabAt w' B (put s (fu i 0) (fu i 1)) → Keep [B] wr.drew w' → TOne w w' B m (put s (fu i 0) (fu i 1)) ∧ RTab w' w.heap.size (.pointer (some ⟨X, 0, none⟩)) (empty m) G) := fun w' ht hk => by
        have hk' : Keep [B] wr w' := ((Keep.refl [B] wr).drewN 1).trans hk (fun b hb => Or.inl hb)
        exact ⟨HW.out.1.next ht (put_inv HW.out.1.inv _ _) (put_keeps _ _ _).1 hk', HW.out.2.keep hk' (fun b hb hm => by simp at hm; rw [hm] at hb; exact HBG.out hb)⟩
      generalize fu i 0 = z0 at *
      generalize fu i 1 = z1 at *
      go_wp2
      go_region_with ((go_at_call 18; refine HPU.out.mono ?_; rintro e w2 ⟨rfl, ht, hk⟩))
      all_goals
        have HN2 : Hid (TOne w w2 B m (put s z0 z1) ∧ RTab w2 w.heap.size (.pointer (some ⟨X, 0, none⟩)) (empty m) G) := HNX.out _ ht hk
        clear ht hk
        go_wp2
        go_roundw
        case rel => exact ⟨i + 1, by omega, by go_num, _, HN2.out⟩
        case measure => simp [intOf]; omega
    · obtain rfl : i = nu := by omega
      clear hlt hi
      obtain ⟨y0, hy0⟩ : ∃ y0, y0 = wr := ⟨_, rfl⟩
      rw [← hy0] at HW ⊢
      clear hy0
      go_wp2_with fail
      refine (slots_any HW.out.1.tab HW.out.1.inv).mono ?_
      rintro e y1 ⟨v1, rfl, ho1, hb1⟩
      have HB1 : Hid (Below y0.heap.size y0 y1) := hb1
      have HO1 : Hid (y1.ownsRow y0.heap.size 3 1 v1 (2 ^ s.k) (slotsC s)) := ho1
      obtain ⟨g1, c1, rfl, _, _⟩ := ho1.form (pw_pos _)
      clear ho1 hb1
      go_wp2_with fail
      refine (list_any (HW.out.1.tab.below HB1.out) HW.out.1.inv).mono ?_
      rintro e y2 ⟨v2, rfl, ho2, hb2⟩
      have HY : Hid (Ways w y2 y0.heap.size (.slice (some ⟨g1, 0, none⟩) (2 ^ s.k) c1) v2 (.pointer (some ⟨X, 0, none⟩)) s m G) :=
        ⟨own_keep HO1.out (Keep.of_below hb2 []) (fun _ _ => by simp), own_base ho2 HB1.out.size, (HW.out.2.below HB1.out).below hb2, below_then (below_then HW.out.1.bel HB1.out) hb2⟩
      obtain ⟨a2, c2, rfl⟩ := own_slice ho2
      have HI : Hid (Inv s) := HW.out.1.inv
      have HK : Hid (s.k = pw m) := by rw [Hid, HI.out.k, HW.out.1.m]
      clear ho2 hb2 HO1 HB1 HW
      obtain ⟨p2, hp2⟩ : ∃ p2, y2.cell? ⟨X, 2, none⟩ = some p2 ∧ ∃ pa pc, p2 = .slice pa (2 ^ s.k) pc := by
        obtain ⟨X', rv, ru, hR⟩ := HY.out.ref
        have e : X' = X := by have := hR.p; simp at this; exact this.symm
        subst e
        obtain ⟨pa, pc, hp⟩ := own_slice hR.place
        refine ⟨ru, by rw [cell_at hR.m]; rfl, pa, pc, ?_⟩
        rw [hp, HK.out]
        rfl
      obtain ⟨hcp, pa, pc, rfl⟩ := hp2
      have h64 := HI.out.n64
      have hn24 : s.R.length ≤ 24 := Nat.le_trans HI.out.len HI.out.m24
      have HCS : Hid (∀ q, q < 2 ^ s.k → (slotsC s)[q]? = some (.int .i64 (slotV s q))) := fun q hq => slotsC_get s q hq
      have HCR : Hid (∀ q, q < s.R.length → (rowsC s.R)[q * 2]? = some (.int .i64 (s.R.getD q noWr).c)) := fun q hq => (rowsC_get s.R q hq).1
      have HRE : Hid (∀ i, i < s.R.length → ∃ d, d < 2 ^ s.k ∧ slotV s ((fst s.k (s.R.getD i noWr).c + d) % 2 ^ s.k) = (s.R.getD i noWr).c ∧ ∀ e, e < d → 0 ≤ slotV s ((fst s.k (s.R.getD i noWr).c + e) % 2 ^ s.k)) := fun i hi => HI.out.reach hi
      have HSL : Hid (∀ q, q < 2 ^ s.k → s.P q ≠ 0 → 0 ≤ slotV s q) := fun q hq h0 => HI.out.slot hq h0
      have HCN : Hid (cntUp s (2 ^ s.k) = s.R.length) := HI.out.cnt
      have HRI : Hid (∀ i, i < s.R.length → right (s.R.getD i noWr).c = true) := fun i hi => by
        have := HI.out.right i hi
        simp [hi, right]
        exact this
      have hpp := pw_pos s.k
      have HFL : Hid (∀ c, fst s.k c < 2 ^ s.k) := fun c => HI.out.fst c
      have hne : (((2 ^ s.k : Nat) : Int) != ((2 ^ s.k : Nat) : Int)) = false := by simp
      obtain ⟨N, hN⟩ : ∃ N, N = 2 ^ s.k := ⟨_, rfl⟩
      obtain ⟨nR, hnR⟩ : ∃ nR, nR = s.R.length := ⟨_, rfl⟩
      rw [← hN] at h64 HCS HRE HSL HCN hpp HFL hcp hne HY ⊢
      rw [← hnR] at hn24 HCR HRE HCN HRI HY ⊢
      have HC1 : Hid (∀ (w' : World) q, Ways w w' y0.heap.size (.slice (some ⟨g1, 0, none⟩) N c1) (.slice a2 nR c2) (.pointer (some ⟨X, 0, none⟩)) s m G → q < N → w'.cell? ⟨g1, q, none⟩ = some (.int .i64 (slotV s q))) := fun w' q h hq => by
        have ho := h.slots
        rw [← hN] at ho
        exact own_cells ho _ _ (HCS.out q hq)
      have HC2 : Hid (∀ (w' : World) i, Ways w w' y0.heap.size (.slice (some ⟨g1, 0, none⟩) N c1) (.slice a2 nR c2) (.pointer (some ⟨X, 0, none⟩)) s m G → i < nR → ∃ g, a2 = some ⟨g, 0, none⟩ ∧ w'.cell? ⟨g, i * 2, none⟩ = some (.int .i64 (s.R.getD i noWr).c)) := fun w' i h hi => by
        have ho := h.rows
        rw [← hnR] at ho
        obtain ⟨g, cap, hform, _, _⟩ := ho.form (by omega)
        obtain ⟨rfl, _, rfl⟩ : a2 = some ⟨g, 0, none⟩ ∧ nR = nR ∧ c2 = cap := by simpa using hform
        exact ⟨g, rfl, own_cells ho _ _ (HCR.out i hi)⟩
      have HFI : Hid (∀ (w' : World) c, Ways w w' y0.heap.size (.slice (some ⟨g1, 0, none⟩) N c1) (.slice a2 nR c2) (.pointer (some ⟨X, 0, none⟩)) s m G → Calls Try.prog 22 #[.pointer (some ⟨X, 0, none⟩), .int .i64 c] w' fun e w'' => e = .returned (.int .i64 (fst s.k c : Int)) ∧ w'' = w') := fun w' c h => by
        have := rfirst_any h.ref (empty_inv HM.out.1 HM.out.2) c
        have e : (empty m).k = s.k := HK.out.symm
        rw [e] at this
        exact this
      have HC0 : Hid (cntUp s 0 = 0) := rfl
      have HCL : Hid (∀ j, cntUp s j ≤ j) := cntUp_le s
      have HCSU : Hid (∀ j, cntUp s (j + 1) = cntUp s j + if s.P j = 0 then 0 else 1) := cntUp_succ s
      clear hN hnR
      go_wp2
      go_loopw [12, 13] (fun fv kv wr => ∃ j : Nat, j ≤ N ∧ kv = .int .i64 j ∧ fv = .int .i64 (cntUp s j : Int) ∧ wr = y2) (fun _ kv _ => N - (intOf kv).toNat)
      case atStart => exact ⟨0, Nat.zero_le _, rfl, rfl, rfl⟩
      case round =>
        obtain ⟨j, hj, rfl, rfl, rfl⟩ := hrel
        by_cases hlt : j < N
        · have hcq := HC1.out wr j HY.out hlt
          have hcl := HCL.out j
          have hd : decide ((j : Int) < (N : Int)) = true := by simp; omega
          have hx1 : (j : Int) < (N : Int) := by omega
          have HSU := HCSU.out j
          by_cases h0 : s.P j = 0
          · rw [slot_none h0] at hcq
            rw [if_pos h0, Nat.add_zero] at HSU
            have HSU' : Hid (cntUp s (j + 1) = cntUp s j) := HSU
            clear HSU
            generalize cntUp s j = cj at *
            go_wp2
            go_roundw
            case rel => exact ⟨j + 1, by omega, by go_num, by rw [HSU'.out], by first | rfl | trivial⟩
            case measure => simp [intOf]; omega
          · have hge := HSL.out j hlt h0
            rw [if_neg h0] at HSU
            have HSU' : Hid (cntUp s (j + 1) = cntUp s j + 1) := HSU
            clear HSU
            generalize cntUp s j = cj at *
            generalize slotV s j = z at *
            go_wp2
            go_roundw
            case rel => exact ⟨j + 1, by omega, by go_num, by rw [HSU'.out]; go_num, by first | rfl | trivial⟩
            case measure => simp [intOf]; omega
        · obtain rfl : N = j := by omega
          rw [HCN.out]
          clear hlt hj
          obtain ⟨y3, hy3⟩ : ∃ y3, y3 = wr := ⟨_, rfl⟩
          rw [← hy3] at HY ⊢
          clear hy3 hcp
          go_wp2
          go_loopw [14] (fun iv wr => ∃ i : Nat, i ≤ nR ∧ iv = .int .i64 i ∧ ∃ q, wr = y3.drewN q) (fun iv _ => nR - (intOf iv).toNat)
          case atStart => exact ⟨0, Nat.zero_le _, rfl, 0, rfl⟩
          case round =>
            obtain ⟨i, hi, rfl, hwr⟩ := hrel
            have HW : Hid (∃ q, wr = y3.drewN q) := hwr
            have HYW : Hid (Ways w wr y0.heap.size (.slice (some ⟨g1, 0, none⟩) N c1) (.slice a2 nR c2) (.pointer (some ⟨X, 0, none⟩)) s m G) := by obtain ⟨q, rfl⟩ := HW.out; exact HY.out.drewN q
            clear hwr
            by_cases hlt : i < nR
            · have hd : decide ((i : Int) < (nR : Int)) = true := by simp; omega
              have hx1 : (i : Int) < (nR : Int) := by omega
              obtain ⟨g2, rfl, hci⟩ := HC2.out wr i HYW.out hlt
              have HRR : Hid (Calls Try.prog 21 #[.int .i64 (s.R.getD i noWr).c] wr fun e w' => e = .returned (.bool true) ∧ w' = wr) := by
                have := rright_any (s.R.getD i noWr).c wr
                rw [HRI.out i hlt] at this
                exact this
              have HFF : Hid (Calls Try.prog 22 #[.pointer (some ⟨X, 0, none⟩), .int .i64 (s.R.getD i noWr).c] wr fun e w'' => e = .returned (.int .i64 (fst s.k (s.R.getD i noWr).c : Int)) ∧ w'' = wr) := HFI.out wr _ HYW.out
              obtain ⟨d, hdN, hdc, hdb⟩ := HRE.out i hlt
              have hfl := HFL.out (s.R.getD i noWr).c
              have HDC : Hid (slotV s ((fst s.k (s.R.getD i noWr).c + d) % N) = (s.R.getD i noWr).c) := hdc
              have HDB : Hid (∀ e, e < d → 0 ≤ slotV s ((fst s.k (s.R.getD i noWr).c + e) % N)) := hdb
              have HCI2 : Hid (∀ w' : World, (∃ q, w' = y3.drewN q) → w'.cell? ⟨g2, i * 2, none⟩ = some (.int .i64 (s.R.getD i noWr).c)) := fun w' ⟨q, hq⟩ => by
                obtain ⟨g', e1, e2⟩ := HC2.out w' i (by rw [hq]; exact HY.out.drewN q) hlt
                have e3 : g' = g2 := by simpa using e1.symm
                rw [e3] at e2
                exact e2
              clear hdc hdb
              generalize hf : fst s.k (s.R.getD i noWr).c = f at *
              generalize (s.R.getD i noWr).c = c at *
              go_wp2_with fail
              refine HRR.out.mono ?_
              rintro e x1 ⟨rfl, rfl⟩
              go_wp2_with fail
              refine HFF.out.mono ?_
              rintro e x2 ⟨rfl, rfl⟩
              go_wp2
              go_loopw [16, 17] (fun kv nv wr => ∃ e : Nat, e ≤ d ∧ nv = .int .i64 e ∧ kv = .int .i64 (((f + e) % N : Nat) : Int) ∧ ∃ q, wr = y3.drewN q) (fun _ nv _ => d - (intOf nv).toNat)
              case atStart => exact ⟨0, Nat.zero_le _, rfl, by rw [Nat.add_zero, Nat.mod_eq_of_lt hfl], HW.out⟩
              case round =>
                obtain ⟨e, he, rfl, rfl, hwr⟩ := hrel
                have HW5 : Hid (∃ q, wr = y3.drewN q) := hwr
                obtain ⟨q, hq, hqN⟩ : ∃ q, (f + e) % N = q ∧ q < N := ⟨_, rfl, Nat.mod_lt _ hpp⟩
                have HQ : Hid ((f + e) % N = q) := hq
                have hcq : wr.cell? ⟨g1, q, none⟩ = some (.int .i64 (slotV s q)) := HC1.out wr q (by obtain ⟨n', e'⟩ := hwr; rw [e']; exact HY.out.drewN n') hqN
                have hcc : wr.cell? ⟨g2, i * 2, none⟩ = some (.int .i64 c) := HCI2.out wr hwr
                rw [hq]
                clear hq hwr
                have hen : (e : Int) < (N : Int) := by omega
                have hdn : decide ((e : Int) < (N : Int)) = true := by simp; omega
                by_cases hz : slotV s q = c
                · rw [hz] at hcq
                  have hcne : (c != c) = false := by simp
                  go_wp2
                  go_quiet (fail)
                  obtain ⟨x5, hx5⟩ : ∃ x5, x5 = wr.drewN nq := ⟨_, rfl⟩
                  have HW6 : Hid (∃ q, x5 = y3.drewN q) := by obtain ⟨n', e'⟩ := HW5.out; exact ⟨_, by rw [hx5, e']; exact World.drewN_drewN _ _ _⟩
                  rw [← hx5]
                  clear hx5 hcq hcc
                  have hcq5 : x5.cell? ⟨g1, q, none⟩ = some (.int .i64 c) := by
                    rw [← hz]; exact HC1.out x5 q (by obtain ⟨n', e'⟩ := HW6.out; rw [e']; exact HY.out.drewN n') hqN
                  have hcc5 : x5.cell? ⟨g2, i * 2, none⟩ = some (.int .i64 c) := HCI2.out x5 HW6.out
                  go_wp2
                  go_quiet (fail)
                  obtain ⟨x6, hx6⟩ : ∃ x6, x6 = x5.drewN nq := ⟨_, rfl⟩
                  have HW7 : Hid (∃ q, x6 = y3.drewN q) := by obtain ⟨n', e'⟩ := HW6.out; exact ⟨_, by rw [hx6, e']; exact World.drewN_drewN _ _ _⟩
                  rw [← hx6]
                  clear hx6 hcq5 hcc5
                  go_wp2
                  go_roundw
                  case rel => exact ⟨i + 1, by omega, by go_num, HW7.out⟩
                  case measure => simp [intOf]; omega
                · have hlt2 : e < d := by
                    apply Classical.byContradiction
                    intro hn
                    obtain rfl : e = d := by omega
                    rw [HQ.out] at HDC
                    exact hz HDC.out
                  have hge := HDB.out e hlt2
                  rw [HQ.out] at hge
                  have hcne : (slotV s q != c) = true := by simpa using hz
                  generalize slotV s q = z at *
                  go_wp2
                  go_quiet (fail)
                  obtain ⟨x5, hx5⟩ : ∃ x5, x5 = wr.drewN nq := ⟨_, rfl⟩
                  have HW6 : Hid (∃ q, x5 = y3.drewN q) := by obtain ⟨n', e'⟩ := HW5.out; exact ⟨_, by rw [hx5, e']; exact World.drewN_drewN _ _ _⟩
                  have hcq5 : x5.cell? ⟨g1, q, none⟩ = some (.int .i64 z) := by rw [hx5]; exact hcq
                  rw [← hx5]
                  clear hx5 hcq hcc
                  go_wp2
                  go_roundw
                  case rel => exact ⟨e + 1, by omega, by go_num, by rw [← mod_step', HQ.out]; go_num, HW6.out⟩
                  case measure => simp [intOf]; omega
            · obtain rfl : i = nR := by omega
              go_wp2
              go_ret
              exact ⟨by simp, HYW.out.bel⟩
end Go.Proofs.Ytpkbjdpoflipmaa
