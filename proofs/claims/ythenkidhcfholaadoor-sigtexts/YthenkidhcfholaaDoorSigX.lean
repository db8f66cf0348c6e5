/- What the document's answer tells of Text. -/
import Derived.Test.YthenkidhcfholaaDoorSigT
import Derived.Maps.AppendAt
namespace Go.Proofs.YthenkidhcfholaaDoor
open Go.ChangeShapes Go.WideShapes Go.ChangeAt Go.RowKit

/-- The digits of a word, the lowest first. -/
def revHex (x k : Nat) : List Int := (List.range k).map fun q => ((hexd (x / 16 ^ q % 16) : Nat) : Int)
theorem revHex_succ (x k : Nat) : revHex x (k + 1) = revHex x k ++ [((hexd (x / 16 ^ k % 16) : Nat) : Int)] := by
  unfold revHex; rw [List.range_succ, List.map_append]; rfl
theorem revHex_len (x k : Nat) : (revHex x k).length = k := by simp [revHex]
theorem sixteenth (x k : Nat) : x / 16 ^ k / 16 = x / 16 ^ (k + 1) := by rw [Nat.pow_succ, Nat.div_div_eq_div_mul]

/-- A row that another append did not touch. -/
theorem own_grown {w w' : World} {base base' : Nat} {e e' : TypeId} {size size' : Nat} {v v' : Value} {n n' : Nat} {xs xs' : List Value} (h : w.ownsRow base e size v n xs) (_ : w.ownsRow base' e' size' v' n' xs') (hne : v.ownBlock = none ∨ v.ownBlock ≠ v'.ownBlock) (hg : w.grownBy w' v'.ownBlock) : w'.ownsRow base e size v n xs :=
  h.kept hg hne

set_option maxRecDepth 10000 in
theorem rtext_any (s : List Nat) (hs : Ok s) (w : World) :
    Calls Tryd.prog 28 #[sv s] w fun e w' => e = .returned (.string (strOfNums (textOf s))) ∧ Below w.heap.size w w' := by
  have HS : Hid (Ok s) := hs
  have HG : Hid (∀ j : Nat, j < 8 → (sc s)[j]? = some (.int .u64 ((s.getD j 0 : Nat) : Int))) := fun j hj => sc_get s j (by rw [hs.1]; exact hj)
  have HD : Hid (∀ (i : Nat), i < 16 → ∀ w : World, (Instr.index 9 (.string ⟨#[48, 49, 50, 51, 52, 53, 54, 55, 56, 57, 97, 98, 99, 100, 101, 102]⟩) (.int .u64 (i : Int))).run Tryd.prog w = .ok (.int .u8 (hexd i : Int)) w) := fun i h w => digit_at i h w .u64
  obtain ⟨i0, hi, hz0, hz1, hz2⟩ := info_parts info_u8
  have hz := sc_size s
  rw [hs.1] at hz
  clear hs
  unfold sv
  generalize sc s = cs at *
  go_enter Tryd.func28, Tryd.ntmps28
  go_wp2
  go_loopw [3, 4] (fun v i wr => ∃ j : Nat, j ≤ 8 ∧ i = .int .i64 j ∧ wr.heap[w.heap.size]? = some (.cells cs 25 (0, 0)) ∧ wr.ownsRow (w.heap.size + 1) 5 1 v (textTo s j).length (bv (textTo s j)) ∧ Below w.heap.size w wr) (fun _ i _ => 8 - (intOf i).toNat)
  case atStart => exact ⟨0, by omega, rfl, heap_alloc_new _ _, World.ownsRow_nil _ _ _ _, below_a1 _ _⟩
  case round =>
    obtain ⟨j, hj, rfl, hr, hown, hbel⟩ := hrel
    have HR : Hid (wr.heap[w.heap.size]? = some (.cells cs 25 (0, 0))) := hr
    have HW : Hid (wr.ownsRow (w.heap.size + 1) 5 1 u3 (textTo s j).length (bv (textTo s j))) := hown
    have HL : Hid (Below w.heap.size w wr) := hbel
    clear hr hown hbel
    by_cases hlt : j < 8
    · have hd : decide ((j : Int) < 8) = true := by simp; omega
      have hc : wr.cell? ⟨w.heap.size, j, none⟩ = some (.int .u64 ((s.getD j 0 : Nat) : Int)) := by rw [cell_of_row _ _ j cs 25 (0, 0) HR.out]; exact HG.out j hlt
      have HB : Hid (textTo s (j + 1) = textTo s j ++ wordHex (s.getD j 0) 16) := textTo_succ s j
      have hlen := textTo_len s j
      have hxl := HS.out.2 j
      generalize s.getD j 0 = x at *
      go_wp2
      generalize hB : wr.heap.size = B at *
      have hwB : w.heap.size + 1 ≤ B := by have := (Array.getElem?_eq_some_iff.1 HR.out).1; omega
      have HOB : Hid (∀ k, u3.ownBlock = some k → k < B) := fun k hk => by have := (HW.out.lt k hk).2; omega
      clear hc
      go_loopw [5, 6, 7] (fun v y i wr => ∃ k : Nat, k ≤ 16 ∧ i = .int .i64 k ∧ y = .int .u64 ((x / 16 ^ k : Nat) : Int) ∧ wr.heap[w.heap.size]? = some (.cells cs 25 (0, 0)) ∧ wr.ownsRow B 5 1 v k (bv (revHex x k)) ∧ wr.ownsRow (w.heap.size + 1) 5 1 u3 (textTo s j).length (bv (textTo s j)) ∧ Below w.heap.size w wr ∧ B ≤ wr.heap.size) (fun _ _ i _ => 16 - (intOf i).toNat)
      case atStart => exact ⟨0, by omega, rfl, by simp, HR.out, World.ownsRow_nil _ _ _ _, HW.out, HL.out, by omega⟩
      case round =>
        obtain ⟨k, hk, rfl, rfl, hr1, hown, hout, hbel, hsz⟩ := hrel
        have HR1 : Hid (wr.heap[w.heap.size]? = some (.cells cs 25 (0, 0))) := hr1
        have HW1 : Hid (wr.ownsRow B 5 1 u5 k (bv (revHex x k))) := hown
        have HO1 : Hid (wr.ownsRow (w.heap.size + 1) 5 1 u3 (textTo s j).length (bv (textTo s j))) := hout
        have HL1 : Hid (Below w.heap.size w wr) := hbel
        clear hr1 hown hout hbel
        by_cases hklt : k < 16
        · have HU : Hid (x / 16 ^ k / 16 = x / 16 ^ (k + 1)) := sixteenth x k
          have HN : Hid (revHex x (k + 1) = revHex x k ++ [((hexd (x / 16 ^ k % 16) : Nat) : Int)]) := revHex_succ x k
          have hyl : x / 16 ^ k < 18446744073709551616 := Nat.lt_of_le_of_lt (Nat.div_le_self _ _) hxl
          generalize x / 16 ^ k = y at *
          have hym : (y : Int) % 16 = ((y % 16 : Nat) : Int) := by omega
          have hyt : (y : Int).tmod 16 = ((y % 16 : Nat) : Int) := by rw [Int.tmod_eq_emod_of_nonneg (by omega), hym]
          have hdl : y % 16 < 16 := Nat.mod_lt _ (by decide)
          generalize y % 16 = d at *
          have hdg := HD.out d hdl
          go_wp2_with (at_builtin; refine wpList_append_own _ rfl _ _ 54 rfl B 5 i0 (.int .u8 0) 1 1 Tryd.underlying54 hi hz0 hz1 hz2 rfl (by decide) _ _ _ rfl (HW1.out.alloc _) ⟨wr.heap.size, 0, none⟩ 1 1 [.int .u8 (hexd d : Int)] rfl rfl ?c1 ?c2 ?c3 ?c4 ?c5 ?_)
          case c1 => exact cell_one_new _ _ _
          case c2 => intro u hu; simp at hu; subst hu; rfl
          case c3 => unfold maxLen; omega
          case c4 => omega
          case c5 => simp; omega
          intro v' w2 hown' hgrow _
          have HW2 : Hid (w2.ownsRow B 5 1 v' (k + 1) (bv (revHex x (k + 1)))) := by
            rw [HN.out, bv_app]
            exact hown'
          have HO2 : Hid (w2.ownsRow (w.heap.size + 1) 5 1 u3 (textTo s j).length (bv (textTo s j))) := (HO1.out.alloc _).kept hgrow (by
            cases hu : u3.ownBlock with
            | none => exact Or.inl rfl
            | some q =>
              right
              intro e
              have h1 := HOB.out q hu
              have h2 := own_block HW1.out q e.symm
              omega)
          have HR2 : Hid (w2.heap[w.heap.size]? = some (.cells cs 25 (0, 0))) := row_grown (row_later HR1.out (below_a1 _ _)) (HW1.out.alloc _) (by omega) hgrow
          have HL2 : Hid (Below w.heap.size w w2) := (below_alloc HL1.out _).grown hgrow (by simp; omega) (fun b hb => by have := own_block HW1.out b hb; omega)
          have hsz2 : B ≤ w2.heap.size := by have := hgrow.size; simp at this; omega
          clear hown' hgrow
          go_wp2
          go_roundw
          case rel => exact ⟨k + 1, by omega, by go_num, by rw [← HU.out]; go_num, HR2.out, HW2.out, HO2.out, HL2.out, hsz2⟩
          case measure => simp [intOf]; omega
        · have e : k = 16 := by omega
          subst e
          have HOB2 : Hid (∀ q, u3.ownBlock = some q → q < B) := HOB.out
          obtain ⟨g, cap, cur, rfl, hgB, hgr, hcap, hcm, hcs, htk⟩ : ∃ g cap cur, u5 = .slice (some ⟨g, 0, none⟩) 16 cap ∧ B ≤ g ∧ wr.heap[g]? = some (.cells cur 5 (0, 0)) ∧ 16 ≤ cap ∧ cap ≤ maxLen ∧ cur.size = cap * 1 ∧ cur.toList.take (16 * 1) = bv (revHex x 16) := by
            rcases HW1.out.2 with ⟨_, h0⟩ | h
            · omega
            · exact h
          have HC : Hid (∀ (W : World) (i : Nat), W.heap[g]? = some (.cells cur 5 (0, 0)) → i < 16 → W.cell? ⟨g, i, none⟩ = some (.int .u8 ((hexd (x / 16 ^ i % 16) : Nat) : Int))) := by
            intro W i hW hi16
            rw [cell_of_row _ _ i cur 5 (0, 0) hW]
            have e1 : (cur.toList.take (16 * 1))[i]? = some (Value.int .u8 ((hexd (x / 16 ^ i % 16) : Nat) : Int)) := by
              rw [htk]
              simp [bv, revHex, hi16]
            rw [List.getElem?_take, if_pos (by omega)] at e1
            simpa using e1
          have HG1 : Hid (wr.heap[g]? = some (.cells cur 5 (0, 0))) := hgr
          have HGB : Hid (B ≤ g) := hgB
          clear hgr htk hcs hcm hgB
          go_wp2
          generalize Value.int IntKind.i64 ((16 : Nat) : Int) = vk
          generalize Value.int IntKind.u64 ((x / 16 ^ 16 : Nat) : Int) = vz
          go_loopw [3, 8] (fun v i wr => ∃ m : Nat, m ≤ 16 ∧ i = .int .i64 (15 - (m : Int)) ∧ wr.heap[w.heap.size]? = some (.cells cs 25 (0, 0)) ∧ wr.heap[g]? = some (.cells cur 5 (0, 0)) ∧ (v.ownBlock ≠ some g) ∧ wr.ownsRow (w.heap.size + 1) 5 1 v (textTo s j ++ wordHex x m).length (bv (textTo s j ++ wordHex x m)) ∧ Below w.heap.size w wr) (fun _ i _ => ((intOf i) + 1).toNat)
          case atStart => exact ⟨0, by omega, rfl, HR1.out, HG1.out, fun e => by have := HOB2.out g e; have := HGB.out; omega, by rw [wordHex_zero, List.append_nil]; exact HO1.out, HL1.out⟩
          case round =>
            obtain ⟨m, hm, rfl, hr2, hg2, hne, hout, hbel⟩ := hrel
            have HR2 : Hid (wr.heap[w.heap.size]? = some (.cells cs 25 (0, 0))) := hr2
            have HG2 : Hid (wr.heap[g]? = some (.cells cur 5 (0, 0))) := hg2
            have HNE : Hid (u3.ownBlock ≠ some g) := hne
            have HO2 : Hid (wr.ownsRow (w.heap.size + 1) 5 1 u3 (textTo s j ++ wordHex x m).length (bv (textTo s j ++ wordHex x m))) := hout
            have HL2 : Hid (Below w.heap.size w wr) := hbel
            have hsz2 : w.heap.size + 1 ≤ wr.heap.size := by have := (Array.getElem?_eq_some_iff.1 HR2.out).1; omega
            have hgs : g < wr.heap.size := (Array.getElem?_eq_some_iff.1 HG2.out).1
            clear hr2 hg2 hne hout hbel
            by_cases hmlt : m < 16
            · have hge : decide ((15 : Int) - (m : Int) ≥ 0) = true := by simp; omega
              have hce := HC.out wr (15 - m) HG2.out (by omega)
              have HN : Hid ((textTo s j ++ wordHex x m) ++ [((hexd (x / 16 ^ (15 - m) % 16) : Nat) : Int)] = textTo s j ++ wordHex x (m + 1)) := by
                rw [wordHex_succ, List.append_assoc]; rfl
              have hln : (textTo s j ++ wordHex x m).length = 16 * j + m := by rw [List.length_append, hlen, wordHex_len]
              generalize hexd (x / 16 ^ (15 - m) % 16) = q at *
              have hix : (15 : Int) - (m : Int) = ((15 - m : Nat) : Int) := by omega
              generalize 15 - m = p at *
              have hp : p + m = 15 := by omega
              rw [hix] at hge
              rw [hix]
              clear hix
              go_wp2_with (at_builtin; refine wpList_append_own_at _ rfl _ _ 54 rfl (w.heap.size + 1) 5 i0 (.int .u8 0) 1 1 Tryd.underlying54 hi hz0 hz1 hz2 rfl (by decide) _ _ _ rfl (HO2.out.alloc _) ⟨wr.heap.size, 0, none⟩ 1 1 [.int .u8 (q : Int)] rfl rfl ?c1 ?c2 ?c3 ?c4 ?c5 ?_)
              case c1 => exact cell_one_new _ _ _
              case c2 => intro u hu; simp at hu; subst hu; rfl
              case c3 => unfold maxLen; omega
              case c4 => omega
              case c5 => simp; omega
              intro v' w2 hown' hgrow _ hat
              have HO3 : Hid (w2.ownsRow (w.heap.size + 1) 5 1 v' (textTo s j ++ wordHex x (m + 1)).length (bv (textTo s j ++ wordHex x (m + 1)))) := by
                rw [← HN.out, List.length_append, hln, bv_app (textTo s j ++ wordHex x m)]
                exact hown'
              have HNE3 : Hid (v'.ownBlock ≠ some g) := by
                intro e
                rcases hat with h | h
                · exact HNE.out (by rw [← h, e])
                · rw [e] at h
                  simp at h
                  omega
              have HR3 : Hid (w2.heap[w.heap.size]? = some (.cells cs 25 (0, 0))) := row_grown (row_later HR2.out (below_a1 _ _)) (HO2.out.alloc _) (by omega) hgrow
              have HG3 : Hid (w2.heap[g]? = some (.cells cur 5 (0, 0))) := by
                rw [Hid, hgrow.block g (by simp; omega) (fun e => HNE.out e.symm)]
                exact row_later HG2.out (below_a1 _ _)
              have HL3 : Hid (Below w.heap.size w w2) := (below_alloc HL2.out _).grown hgrow (by simp; omega) (fun b hb => by have := own_block HO2.out b hb; omega)
              clear hown' hgrow hat
              go_wp2
              go_roundw
              case rel => exact ⟨m + 1, by omega, by go_num, HR3.out, HG3.out, HNE3.out, HO3.out, HL3.out⟩
              case measure => simp [intOf]
            · have e : m = 16 := by omega
              subst e
              have hge : decide ((15 : Int) - ((16 : Nat) : Int) ≥ 0) = false := by decide
              go_wp2
              go_roundw
              case rel => exact ⟨j + 1, by omega, by go_num, HR2.out, by rw [HB.out]; exact HO2.out, HL2.out⟩
              case measure => simp [intOf]; omega
    · have e : j = 8 := by omega
      subst e
      have hcv := conv_own wr _ _ _ (textTo s 8) HW.out
      go_wp2
      go_ret
      exact ⟨rfl, HL.out⟩
end Go.Proofs.YthenkidhcfholaaDoor
