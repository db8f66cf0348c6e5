/- What the document's answer tells of Parse and Text. -/
import Derived.Test.YthenkidhcfholaaDoorSigN
namespace Go.Proofs.YthenkidhcfholaaDoor
open Go.ChangeShapes Go.WideShapes Go.ChangeAt Go.RowKit

theorem dv_hexd (i : Nat) (h : i < 16) : dv (hexd i) = some i := by
  unfold hexd dv
  split
  · rw [if_pos (by omega)]; simp
  · rw [if_neg (by omega), if_pos (by omega)]; simp
theorem hexd_dv {b d : Nat} (h : dv b = some d) : hexd d = b := by
  unfold dv at h
  unfold hexd
  split at h
  · simp at h; rw [if_pos (by omega)]; omega
  · split at h
    · simp at h; rw [if_neg (by omega)]; omega
    · cases h

theorem rdigit_any (b : Nat) (w : World) : Calls Tryd.prog 41 #[.int .u8 (b : Int)] w fun e w' => e = .returned (.int .u64 (((dv b).getD 16 : Nat) : Int)) ∧ w' = w := by
  have HD : Hid (∀ (i : Nat), i < 16 → ∀ w : World, (Instr.index 9 (.string ⟨#[48, 49, 50, 51, 52, 53, 54, 55, 56, 57, 97, 98, 99, 100, 101, 102]⟩) (.int .i64 (i : Int))).run Tryd.prog w = .ok (.int .u8 (hexd i : Int)) w) := fun i h w => digit_at i h w .i64
  go_enter Tryd.func41, Tryd.ntmps41
  go_wp2
  go_loop [3] (fun i => ∃ j : Nat, j ≤ 16 ∧ i = .int .i64 j ∧ ∀ k, k < j → hexd k ≠ b) (fun i => 16 - (intOf i).toNat)
  case atStart => exact ⟨0, by omega, rfl, fun k hk => absurd hk (by omega)⟩
  case round =>
    obtain ⟨j, hj, rfl, hne⟩ := hrel
    have HN : Hid (∀ k, k < j → hexd k ≠ b) := hne
    clear hne
    by_cases hlt : j < 16
    · have hix := HD.out j hlt
      by_cases hb : hexd j = b
      · have HR : Hid ((dv b).getD 16 = j) := by rw [← hb, dv_hexd j hlt]; rfl
        have he : ((hexd j : Int) == (b : Int)) = true := by rw [hb]; simp
        generalize hexd j = q at *
        clear hb
        go_wp2
        go_ret
        exact ⟨by rw [HR.out]; rfl, rfl⟩
      · have HS : Hid (∀ k, k < j + 1 → hexd k ≠ b) := fun k hk => by
          by_cases e : k = j
          · rw [e]; exact hb
          · exact HN.out k (by omega)
        have he : ((hexd j : Int) == (b : Int)) = false := by simp; omega
        generalize hexd j = q at *
        clear hb
        go_wp2
        go_round
        case rel => exact ⟨j + 1, by omega, by go_num, HS.out⟩
        case measure => simp [intOf]; omega
    · have e : j = 16 := by omega
      subst e
      have HR : Hid ((dv b).getD 16 = 16) := by
        cases h : dv b with
        | none => rfl
        | some d => exact absurd (hexd_dv h) (HN.out d (dv_lt h))
      go_wp2
      go_ret
      exact ⟨by rw [HR.out]; rfl, rfl⟩

theorem rparse_any (s : ByteArray) (hs : s.size ≤ 9223372036854775807) (w : World) :
    Calls Tryd.prog 30 #[.string s] w fun e w' => e = .returned (.tuple #[sv (parseV s).1, .int .i64 ((parseV s).2.1 : Int), .int .i64 ((parseV s).2.2 : Int)]) ∧ Below w.heap.size w w' := by
  have hnn : (sc nought).size = 8 := rfl
  unfold sv
  go_enter Tryd.func30, Tryd.ntmps30
  go_wp2
  go_loopw [6] (fun i wr => ∃ j : Nat, j ≤ 128 ∧ i = .int .i64 j ∧ j ≤ s.size ∧ parseV s = parseGo s (128 - j) j ∧ wr = (w.alloc (.cells (sc nought) 25)).alloc (.cells (sc (accTo s j)) 25)) (fun i _ => 128 - (intOf i).toNat)
  case atStart => exact ⟨0, by omega, rfl, by omega, rfl, rfl⟩
  case round =>
    obtain ⟨j, hj, rfl, hjs, hp, rfl⟩ := hrel
    have HP : Hid (parseV s = parseGo s (128 - j) j) := hp
    clear hp
    by_cases hlt : j < 128
    · have hd : decide ((j : Int) < 128) = true := by simp; omega
      obtain ⟨f, hf⟩ : ∃ f, 128 - j = f + 1 := ⟨127 - j, by omega⟩
      by_cases hend : j = s.size
      · have HQ : Hid (parseV s = (nought, 9, j)) := by
          rw [Hid, HP.out, hf]; unfold parseGo; rw [if_pos hend]
        have he : ((j : Int) == (s.size : Int)) = true := by rw [hend]; simp
        generalize sc (accTo s j) = cs at *
        clear HP hf hend hjs
        go_wp2
        refine ret_sig3 rfl rfl (heap_alloc2_old _ _ _) rfl rfl ⟨?_, below_a2 _ _ _⟩
        rw [HQ.out]
        rfl
      · have hlt2 : j < s.size := by omega
        have he : ((j : Int) == (s.size : Int)) = false := by simp; omega
        have hdig := dig_at s j hlt2
        cases hdv : dv (dig s j) with
        | none =>
          have HQ : Hid (parseV s = (nought, 9, j)) := by
            rw [Hid, HP.out, hf]; unfold parseGo; rw [if_neg hend, if_pos hdv]
          rw [hdig] at hdv
          have HD : Hid (∀ w, Calls Tryd.prog 41 #[.int .u8 (s[j].toNat : Int)] w fun e w' => e = .returned (.int .u64 16) ∧ w' = w) := fun w => by
            have := rdigit_any s[j].toNat w
            rw [hdv] at this
            exact this
          generalize sc (accTo s j) = cs at *
          clear HP hf hend hdig hdv
          go_wp2_with fail
          refine (HD.out _).mono ?_
          rintro e w1 ⟨rfl, rfl⟩
          go_wp2
          refine ret_sig3 rfl rfl (heap_alloc2_old _ _ _) rfl rfl ⟨?_, below_a2 _ _ _⟩
          rw [HQ.out]
          rfl
        | some d =>
          have HQ : Hid (parseV s = parseGo s (128 - (j + 1)) (j + 1)) := by
            rw [Hid, HP.out, hf, show 128 - (j + 1) = f by omega]
            conv => lhs; unfold parseGo
            rw [if_neg hend, if_neg (by rw [hdv]; simp)]
          have hd16 := dv_lt hdv
          have hok := ok_accTo s j (by omega)
          have hz : (sc (accTo s j)).size = 8 := by rw [sc_size]; exact hok.1
          have hg := sc_get (accTo s j) (j / 16) (by rw [hok.1]; omega)
          have HN : Hid ((sc (accTo s j)).setIfInBounds (j / 16) (Value.int .u64 ((((accTo s j).getD (j / 16) 0 : Nat) : Int) * 16 % 18446744073709551616 + (d : Int))) = sc (accTo s (j + 1))) := by
            rw [show (((accTo s j).getD (j / 16) 0 : Nat) : Int) * 16 % 18446744073709551616 + (d : Int) = (((accTo s j).getD (j / 16) 0 * 16 % 18446744073709551616 + d : Nat) : Int) by omega]
            have := sc_set (accTo s j) (j / 16) ((accTo s j).getD (j / 16) 0 * 16 % 18446744073709551616 + d)
            rw [Array.set!_eq_setIfInBounds] at this
            rw [Hid, this]
            conv => rhs; unfold accTo
            rw [hdv]
            rfl
          have hxl := hok.2 (j / 16)
          rw [hdig] at hdv
          have HD : Hid (∀ w, Calls Tryd.prog 41 #[.int .u8 (s[j].toNat : Int)] w fun e w' => e = .returned (.int .u64 (d : Int)) ∧ w' = w) := fun w => by
            have := rdigit_any s[j].toNat w
            rw [hdv] at this
            exact this
          have h16 : ((d : Int) == 16) = false := by simp; omega
          generalize (accTo s j).getD (j / 16) 0 = x at *
          generalize hcn : sc (accTo s (j + 1)) = cn at *
          have HCN : Hid (sc (accTo s (j + 1)) = cn) := hcn
          generalize sc (accTo s j) = cs at *
          have hwr : IntKind.u64.wrap ((x : Int) * 16) = (x : Int) * 16 % 18446744073709551616 := by rw [IntKind.wrap_u64]
          have hwl : (x : Int) * 16 % 18446744073709551616 + (d : Int) < 18446744073709551616 := by omega
          have hw0 : 0 ≤ (x : Int) * 16 % 18446744073709551616 + (d : Int) := by omega
          clear HP hf hend hdig hdv hok hcn
          go_wp2_with fail
          refine (HD.out _).mono ?_
          rintro e w1 ⟨rfl, rfl⟩
          go_wp2
          go_roundw
          case rel => exact ⟨j + 1, by omega, by go_num, by omega, HQ.out, by rw [HCN.out, ← HN.out]⟩
          case measure => simp [intOf]; omega
    · have e : j = 128 := by omega
      subst e
      have hok := ok_accTo s 128 (by omega)
      have hz : (sc (accTo s 128)).size = 8 := by rw [sc_size]; exact hok.1
      have h1 := sc_one (accTo s 128)
      by_cases hbig : 128 < s.size
      · have HQ : Hid (parseV s = (nought, 9, 128)) := by
          rw [Hid, HP.out]; exact if_pos hbig
        have hg : decide ((s.size : Int) > 128) = true := by simp; omega
        generalize sc (accTo s 128) = cs at *
        go_wp2
        refine ret_sig3 rfl rfl (heap_alloc2_old _ _ _) rfl rfl ⟨?_, below_a2 _ _ _⟩
        rw [HQ.out]
        rfl
      · have HQ : Hid (parseV s = (accTo s 128, 0, 0)) := by
          rw [Hid, HP.out]; exact if_neg hbig
        have hg : decide ((s.size : Int) > 128) = false := by simp; omega
        generalize hcn : sc (accTo s 128) = cs at *
        have HCN : Hid (sc (accTo s 128) = cs) := hcn
        clear hcn hok
        have hpk := pack8 cs hz
        have hst := fun (w : World) (o2 : Obj) (old : Array Value) (ho : old.size = 8) => store_2_0 (P := Tryd.prog) w o2 25 old cs ho hz h1
        generalize sc nought = cn at *
        go_wp2
        refine ret_sig3 rfl rfl (heap_alloc2_old _ _ _) hz rfl ⟨?_, below_a2 _ _ _⟩
        rw [HQ.out, HCN.out]
        rfl
end Go.Proofs.YthenkidhcfholaaDoor
