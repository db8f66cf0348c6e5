/- What Parse answers, in the program and in the document's answer. -/
import Derived.Test.YthenkidhcfholabDoorSigT
namespace Go.Proofs.YthenkidhcfholabDoor
open Go.ChangeShapes Go.WideShapes Go.ChangeAt Go.RowKit

/-! ### digits read -/
def dv (b : Nat) : Option Nat := if 48 ≤ b ∧ b ≤ 57 then some (b - 48) else if 97 ≤ b ∧ b ≤ 102 then some (b - 87) else none
theorem dv_lt {b d : Nat} (h : dv b = some d) : d < 16 := by
  unfold dv at h
  split at h
  · simp at h; omega
  · split at h
    · simp at h; omega
    · cases h

theorem dv_hexd (i : Nat) (h : i < 16) : dv (hexd i) = some i := by
  unfold hexd dv
  split
  · rw [if_pos (by omega)]; simp
  · rw [if_neg (by omega), if_pos (by omega)]; simp
theorem hexd_dv {b d : Nat} (h : dv b = some d) : hexd d = b := by
  unfold dv at h
  unfold hexd
  split at h
  · simp at h; rw [if_pos (by omega)]; omega
  · split at h
    · simp at h; rw [if_neg (by omega)]; omega
    · cases h

theorem digitValue_yes (b d : Nat) (h : dv b = some d) (w : World) : Calls Tryd.prog 15 #[.int .u8 (b : Int)] w fun e w' => e = .returned (.tuple #[.int .u64 (d : Int), .bool true]) ∧ w' = w := by
  unfold dv at h
  by_cases h1 : 48 ≤ b ∧ b ≤ 57
  · rw [if_pos h1] at h
    have hd : b = d + 48 := by simp at h; omega
    have a1 : decide ((48 : Int) ≤ (b : Int)) = true := by simp; omega
    have a2 : decide ((b : Int) ≤ (57 : Int)) = true := by simp; omega
    clear h
    go_enter Tryd.func15, Tryd.ntmps15
    go_wp2
    go_ret2
    exact ⟨by simp, rfl⟩
  · rw [if_neg h1] at h
    by_cases h2 : 97 ≤ b ∧ b ≤ 102
    · rw [if_pos h2] at h
      have hd : b = d + 87 := by simp at h; omega
      have a0 : decide ((48 : Int) ≤ (b : Int)) = true := by simp; omega
      have a1 : decide ((b : Int) ≤ (57 : Int)) = false := by simp; omega
      have a2 : decide ((97 : Int) ≤ (b : Int)) = true := by simp; omega
      have a3 : decide ((b : Int) ≤ (102 : Int)) = true := by simp; omega
      clear h h1
      go_enter Tryd.func15, Tryd.ntmps15
      go_wp2
      go_ret2
      exact ⟨by simp; omega, rfl⟩
    · rw [if_neg h2] at h; cases h

theorem digitValue_no (b : Nat) (h : dv b = none) (w : World) : Calls Tryd.prog 15 #[.int .u8 (b : Int)] w fun e w' => e = .returned (.tuple #[.int .u64 0, .bool false]) ∧ w' = w := by
  unfold dv at h
  by_cases h1 : 48 ≤ b ∧ b ≤ 57
  · rw [if_pos h1] at h; cases h
  · rw [if_neg h1] at h
    by_cases h2 : 97 ≤ b ∧ b ≤ 102
    · rw [if_pos h2] at h; cases h
    · clear h
      by_cases c0 : 48 ≤ b
      · have a0 : decide ((48 : Int) ≤ (b : Int)) = true := by simp; omega
        have a1 : decide ((b : Int) ≤ (57 : Int)) = false := by simp; omega
        by_cases c1 : 97 ≤ b
        · have a2 : decide ((97 : Int) ≤ (b : Int)) = true := by simp; omega
          have a3 : decide ((b : Int) ≤ (102 : Int)) = false := by simp; omega
          clear h1 h2
          go_enter Tryd.func15, Tryd.ntmps15
          go_wp2
          go_ret2
          exact ⟨rfl, rfl⟩
        · have a2 : decide ((97 : Int) ≤ (b : Int)) = false := by simp; omega
          clear h1 h2
          go_enter Tryd.func15, Tryd.ntmps15
          go_wp2
          go_ret2
          exact ⟨rfl, rfl⟩
      · have a0 : decide ((48 : Int) ≤ (b : Int)) = false := by simp; omega
        have a2 : decide ((97 : Int) ≤ (b : Int)) = false := by simp; omega
        clear h1 h2
        go_enter Tryd.func15, Tryd.ntmps15
        go_wp2
        go_ret2
        exact ⟨rfl, rfl⟩

/-! ### a text read -/
def dig (s : ByteArray) (i : Nat) : Nat := (s[i]?.elim 0 (·.toNat))
def accTo (s : ByteArray) : Nat → List Nat
  | 0 => nought
  | i + 1 => (accTo s i).set (i / 16) ((accTo s i).getD (i / 16) 0 * 16 % 18446744073709551616 + (dv (dig s i)).getD 0)
def parseGo (s : ByteArray) : Nat → Nat → List Nat × Nat × Nat
  | 0, _ => if 128 < s.size then (nought, 9, 128) else (accTo s 128, 0, 0)
  | f + 1, i => if i = s.size then (nought, 9, i) else if dv (dig s i) = none then (nought, 9, i) else parseGo s f (i + 1)
def parseV (s : ByteArray) : List Nat × Nat × Nat := parseGo s 128 0

theorem dv_get (b : Nat) : (dv b).getD 0 < 16 := by
  cases h : dv b with
  | none => simp
  | some d => exact dv_lt h
theorem ok_accTo (s : ByteArray) (i : Nat) (hi : i ≤ 128) : Ok (accTo s i) := by
  induction i with
  | zero => exact ok_nought
  | succ i ih =>
    have h := ih (by omega)
    refine ⟨by simp [accTo, h.1], fun k => ?_⟩
    unfold accTo
    rw [getD_set _ _ _ _ (by rw [h.1]; omega)]
    split
    · have := dv_get (dig s i)
      have := Nat.mod_lt ((accTo s i).getD (i / 16) 0 * 16) (show 0 < 18446744073709551616 by decide)
      omega
    · exact h.2 k
theorem ok_parseGo (s : ByteArray) (f i : Nat) : Ok (parseGo s f i).1 := by
  induction f generalizing i with
  | zero =>
    unfold parseGo
    have h := ok_accTo s 128 (by omega)
    generalize accTo s 128 = q at *
    split
    · exact ok_nought
    · exact h
  | succ f ih =>
    unfold parseGo
    split
    · exact ok_nought
    · split
      · exact ok_nought
      · exact ih _
theorem ok_parseV (s : ByteArray) : Ok (parseV s).1 := ok_parseGo s 128 0
theorem or_low (x d : Nat) (hd : d < 16) : (x * 16 % 18446744073709551616) ||| d = x * 16 % 18446744073709551616 + d := by
  have e : x * 16 % 18446744073709551616 = 2 ^ 4 * (x % 1152921504606846976) := by omega
  rw [e, Nat.two_pow_add_eq_or_of_lt (by simpa using hd)]

theorem store_2_0 {P : Program} (w : World) (o2 : Obj) (t : TypeId) (old cs : Array Value) (hz : old.size = 8) (hc : cs.size = 8) (h1 : cs.all (·.oneCell') = true) :
    (storeCells ⟨w.heap.size, 0, none⟩ cs.toList 0).run P ((w.alloc (.cells old t)).alloc o2) = .ok () ((w.alloc (.cells cs t)).alloc o2) := by
  rw [store_row (t := t) (old := old) (heap_alloc2_old _ _ _) hz hc h1, setRow_alloc_old _ _ _ _ (by simp), World.setRow_alloc_new]

/-- A signature and two numbers are handed back. -/
theorem ret_sig3 {fn : Func} {p q r : Tmp} {R : Ending → World → Prop} {a : Act} {w : World} {g : Nat} {cs : Array Value} (h : fn.results = #[.cell p 24, .tmp q, .tmp r]) (hp : a.tmps.getD p undef = .pointer (some ⟨g, 0, none⟩))
    (hg : w.heap[g]? = some (.cells cs 24 (0, 0))) (hz : cs.size = 8) (hd : a.defers = []) (hR : R (.returned (.tuple #[.agg cs, a.tmps.getD q undef, a.tmps.getD r undef])) w) : bodyPost Tryd.prog fn R .ret a w := by
  refine bodyPost_ret (v := .tuple #[.agg cs, a.tmps.getD q undef, a.tmps.getD r undef]) ?_ hd hR
  have hp' : a.tmps[p]?.getD undef = .pointer (some ⟨g, 0, none⟩) := by simpa using hp
  have hl := run_loadVar_row (P := Tryd.prog) w g 24 24 cs (0, 0) (.array 8 22) hg Tryd.underlying24 rfl (by rw [hz]; kernel_rfl)
  simp [results, h, hp', asAddr, hl]

theorem dig_at (s : ByteArray) (i : Nat) (h : i < s.size) : dig s i = s[i].toNat := by
  unfold dig
  rw [getElem?_pos s i h]
  rfl

theorem parse_any (s : ByteArray) (hs : s.size ≤ 9223372036854775807) (w : World) :
    Calls Tryd.prog 9 #[.string s] w fun e w' => e = .returned (.tuple #[sv (parseV s).1, .int .i64 ((parseV s).2.1 : Int), .int .i64 ((parseV s).2.2 : Int)]) ∧ Below w.heap.size w w' := by
  have hnn : (sc nought).size = 8 := rfl
  unfold sv
  go_enter Tryd.func9, Tryd.ntmps9
  go_wp2
  go_loopw [10] (fun i wr => ∃ j : Nat, j ≤ 128 ∧ i = .int .i64 j ∧ j ≤ s.size ∧ parseV s = parseGo s (128 - j) j ∧ wr = (w.alloc (.cells (sc nought) 24)).alloc (.cells (sc (accTo s j)) 24)) (fun i _ => 128 - (intOf i).toNat)
  case atStart => exact ⟨0, by omega, rfl, by omega, rfl, rfl⟩
  case round =>
    obtain ⟨j, hj, rfl, hjs, hp, rfl⟩ := hrel
    have HP : Hid (parseV s = parseGo s (128 - j) j) := hp
    clear hp
    by_cases hlt : j < 128
    · have hd : decide ((j : Int) < 128) = true := by simp; omega
      obtain ⟨f, hf⟩ : ∃ f, 128 - j = f + 1 := ⟨127 - j, by omega⟩
      by_cases hend : j = s.size
      · have HQ : Hid (parseV s = (nought, 9, j)) := by
          rw [Hid, HP.out, hf]; unfold parseGo; rw [if_pos hend]
        have he : ((j : Int) == (s.size : Int)) = true := by rw [hend]; simp
        generalize sc (accTo s j) = cs at *
        clear HP hf hend hjs
        go_wp2
        refine ret_sig3 rfl rfl (heap_alloc2_old _ _ _) rfl rfl ⟨?_, below_a2 _ _ _⟩
        rw [HQ.out]
        rfl
      · have hlt2 : j < s.size := by omega
        have he : ((j : Int) == (s.size : Int)) = false := by simp; omega
        have hdig := dig_at s j hlt2
        cases hdv : dv (dig s j) with
        | none =>
          have HQ : Hid (parseV s = (nought, 9, j)) := by
            rw [Hid, HP.out, hf]; unfold parseGo; rw [if_neg hend, if_pos hdv]
          rw [hdig] at hdv
          have HD : Hid (∀ w, Calls Tryd.prog 15 #[.int .u8 (s[j].toNat : Int)] w fun e w' => e = .returned (.tuple #[.int .u64 0, .bool false]) ∧ w' = w) := fun w => digitValue_no _ hdv w
          generalize sc (accTo s j) = cs at *
          clear HP hf hend hdig hdv
          go_wp2_with fail
          refine (HD.out _).mono ?_
          rintro e w1 ⟨rfl, rfl⟩
          go_wp2
          refine ret_sig3 rfl rfl (heap_alloc2_old _ _ _) rfl rfl ⟨?_, below_a2 _ _ _⟩
          rw [HQ.out]
          rfl
        | some d =>
          have HQ : Hid (parseV s = parseGo s (128 - (j + 1)) (j + 1)) := by
            rw [Hid, HP.out, hf, show 128 - (j + 1) = f by omega]
            conv => lhs; unfold parseGo
            rw [if_neg hend, if_neg (by rw [hdv]; simp)]
          have hd16 := dv_lt hdv
          have hok := ok_accTo s j (by omega)
          have hz : (sc (accTo s j)).size = 8 := by rw [sc_size]; exact hok.1
          have hg := sc_get (accTo s j) (j / 16) (by rw [hok.1]; omega)
          have HN : Hid ((sc (accTo s j)).setIfInBounds (j / 16) (Value.int .u64 (bits .or .u64 ((((accTo s j).getD (j / 16) 0 : Nat) : Int) * 16 % 18446744073709551616) (d : Int))) = sc (accTo s (j + 1))) := by
            rw [show (((accTo s j).getD (j / 16) 0 : Nat) : Int) * 16 % 18446744073709551616 = (((accTo s j).getD (j / 16) 0 * 16 % 18446744073709551616 : Nat) : Int) by omega, bits_or_u64_nat _ _ (Nat.mod_lt _ (by decide)) (by omega), or_low _ _ hd16]
            have := sc_set (accTo s j) (j / 16) ((accTo s j).getD (j / 16) 0 * 16 % 18446744073709551616 + d)
            rw [Array.set!_eq_setIfInBounds] at this
            rw [Hid, this]
            conv => rhs; unfold accTo
            rw [hdv]
            rfl
          have hxl := hok.2 (j / 16)
          rw [hdig] at hdv
          have HD : Hid (∀ w, Calls Tryd.prog 15 #[.int .u8 (s[j].toNat : Int)] w fun e w' => e = .returned (.tuple #[.int .u64 (d : Int), .bool true]) ∧ w' = w) := fun w => digitValue_yes _ _ hdv w
          generalize (accTo s j).getD (j / 16) 0 = x at *
          generalize hcn : sc (accTo s (j + 1)) = cn at *
          have HCN : Hid (sc (accTo s (j + 1)) = cn) := hcn
          generalize sc (accTo s j) = cs at *
          have hwr : IntKind.u64.wrap ((x : Int) * 16) = ((x * 16 % 18446744073709551616 : Nat) : Int) := by rw [IntKind.wrap_u64]; omega
          clear HP hf hend hdig hdv hok hcn
          go_wp2_with fail
          refine (HD.out _).mono ?_
          rintro e w1 ⟨rfl, rfl⟩
          go_wp2
          go_roundw
          case rel => exact ⟨j + 1, by omega, by go_num, by omega, HQ.out, by rw [HCN.out, ← HN.out]⟩
          case measure => simp [intOf]; omega
    · have e : j = 128 := by omega
      subst e
      have hok := ok_accTo s 128 (by omega)
      have hz : (sc (accTo s 128)).size = 8 := by rw [sc_size]; exact hok.1
      have h1 := sc_one (accTo s 128)
      by_cases hbig : 128 < s.size
      · have HQ : Hid (parseV s = (nought, 9, 128)) := by
          rw [Hid, HP.out]; exact if_pos hbig
        have hg : decide ((s.size : Int) > 128) = true := by simp; omega
        generalize sc (accTo s 128) = cs at *
        go_wp2
        refine ret_sig3 rfl rfl (heap_alloc2_old _ _ _) rfl rfl ⟨?_, below_a2 _ _ _⟩
        rw [HQ.out]
        rfl
      · have HQ : Hid (parseV s = (accTo s 128, 0, 0)) := by
          rw [Hid, HP.out]; exact if_neg hbig
        have hg : decide ((s.size : Int) > 128) = false := by simp; omega
        generalize hcn : sc (accTo s 128) = cs at *
        have HCN : Hid (sc (accTo s 128) = cs) := hcn
        clear hcn hok
        have hpk := pack8 cs hz
        have hst := fun (w : World) (o2 : Obj) (old : Array Value) (ho : old.size = 8) => store_2_0 (P := Tryd.prog) w o2 24 old cs ho hz h1
        generalize sc nought = cn at *
        go_wp2
        refine ret_sig3 rfl rfl (heap_alloc2_old _ _ _) hz rfl ⟨?_, below_a2 _ _ _⟩
        rw [HQ.out, HCN.out]
        rfl
end Go.Proofs.YthenkidhcfholabDoor
