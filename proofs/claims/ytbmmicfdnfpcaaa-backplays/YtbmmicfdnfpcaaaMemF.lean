/- The program's Log. -/
import Derived.Test.YtbmmicfdnfpcaaaMemE
import Derived.ArgAppend
import Derived.Lib.SlFresh
namespace Go.Proofs.Ytbmmicfdnfpcaaa
open Go.ChangeShapes Go.WideShapes Go.ChangeAt Go.RowKit

theorem logC_drop (L : List Ac) (k : Nat) : logC (L.drop k) = (logC L).drop (k * 8) := by
  induction L generalizing k with
  | nil => simp [logC]
  | cons x L ih =>
    cases k with
    | zero => simp
    | succ k =>
      rw [List.drop_succ_cons, ih]
      have e : logC (x :: L) = (acC x).toList ++ logC L := rfl
      have h8 : (acC x).toList.length = 8 := by simp [acC]
      rw [e, List.drop_append, h8, show (k + 1) * 8 - 8 = k * 8 by omega, show ((acC x).toList.drop ((k + 1) * 8)) = [] from List.drop_eq_nil_of_le (by rw [h8]; omega), List.nil_append]
theorem logC_one' (L : List Ac) : ∀ u ∈ logC L, u.oneCell' = true := fun u hu => by
  simp only [logC, List.mem_flatMap] at hu
  obtain ⟨x, _, hx⟩ := hu
  simp [acC] at hx
  rcases hx with rfl | rfl | rfl | rfl | rfl | rfl | rfl | rfl <;> rfl
theorem own_cells {w : World} {base g cap n s : Nat} {e : TypeId} {xs : List Value} (h : w.ownsRow base e s (.slice (some ⟨g, 0, none⟩) n cap) n xs) : ∀ (j : Nat) u, xs[j]? = some u → w.cell? ⟨g, j, none⟩ = some u := by
  intro j u hu
  rcases h.2 with ⟨e, _⟩ | ⟨g', cap', cur, e, _, hg, _, _, _, ht⟩
  · cases e
  · simp at e
    obtain ⟨rfl, rfl⟩ := e
    rw [cell_at hg]
    rw [← ht, List.getElem?_take] at hu
    split at hu
    · simpa using hu
    · cases hu

set_option maxRecDepth 10000 in
theorem log_any {w : World} {base : Nat} {p : Value} {c r : Nat} {L : List Ac} {F : List Nat} (h : MemAt w base p c r L F) (hL : L.length ≤ 3298534883328) (f : Int) :
    Calls Try.prog 21 #[p, .int .i64 f] w fun e w' => ∃ v, e = .returned v ∧ w'.ownsRow w.heap.size 92 8 v (L.drop f.toNat).length (logC (L.drop f.toNat)) ∧ Below w.heap.size w w' := by
  obtain ⟨i0, hi, hz0, hz1, hz2⟩ := info_parts info_acc
  have HC : Hid (Calls Try.prog 41 #[p] w fun e w' => e = .returned (.int .i64 (L.length : Int)) ∧ w' = w) := count_any h
  obtain ⟨M, H, S, C, v, h⟩ := h
  obtain rfl := h.p
  have hc4 : w.cell? ⟨M, 4, none⟩ = some v := by rw [cell_at h.m.m]; rfl
  have HOWN : Hid (w.ownsRow base 92 8 v L.length (logC L)) := h.own
  clear h
  obtain ⟨k, hk⟩ : ∃ k : Nat, k = f.toNat := ⟨_, rfl⟩
  have hmax : max f 0 = (k : Int) := by omega
  rw [← hk]
  by_cases hlt : k < L.length
  · obtain ⟨g, cap, rfl, hbg, hgl⟩ := HOWN.out.form (by omega)
    have hcap : L.length ≤ cap ∧ cap ≤ maxLen := by
      rcases HOWN.out.2 with ⟨e, _⟩ | ⟨g', cap', cur, e, _, _, h1, h2, _⟩
      · cases e
      · simp at e; rw [e.2]; exact ⟨h1, h2⟩
    have hlen : (logC (L.drop k)).length = (L.drop k).length * 8 := logC_len _
    have hnews : ∀ j u, (logC (L.drop k))[j]? = some u → w.cell? ((⟨g, k * 8, none⟩ : Addr).add j) = some u := fun j u hu => by
      rw [logC_drop, List.getElem?_drop] at hu
      have := own_cells HOWN.out _ u hu
      unfold Addr.add
      split
      · next e => subst e; simpa using this
      · exact this
    have hdl : (L.drop k).length = L.length - k := List.length_drop
    obtain ⟨v', w', hrun, hown', hgrow⟩ := run_copy_wide0 (P := Try.prog) w 64 64 92 i0 _ 8 64 Try.underlying64 hi hz0 hz1 hz2 rfl ⟨g, k * 8, none⟩ ⟨g, k * 8, none⟩ (L.drop k).length (L.drop k).length (logC (L.drop k)) hlen hnews (by omega) (by unfold maxLen; omega) (by omega)
    have HO : Hid (w'.ownsRow w.heap.size 92 8 v' (L.drop k).length (logC (L.drop k))) := hown'
    have HB : Hid (Below w.heap.size w w') := ⟨hgrow.os, hgrow.tape, hgrow.output, hgrow.size, fun b hb => hgrow.block b hb (by simp)⟩
    generalize logC (L.drop k) = xs at *
    generalize (L.drop k).length = m at *
    clear hown' hgrow hlen hnews
    unfold maxLen at hcap
    generalize L.length = n at *
    have h1 : (k : Int) ≤ (n : Int) := by omega
    have h2 : (n : Int) ≤ (cap : Int) := by omega
    subst hdl
    by_cases hf : f < 0
    · have hk0 : k = 0 := by omega
      subst hk0
      rw [Nat.zero_mul] at hrun
      have hm0 : max f 0 = 0 := hmax
      rw [Nat.sub_zero] at hrun HO
      rw [Nat.sub_zero]
      clear hmax hk
      go_enter Try.func21, Try.ntmps21
      go_wp2_with fail
      refine HC.out.mono ?_
      rintro e w0 ⟨rfl, rfl⟩
      go_wp2_with (at_builtin; refine Lib.wpList_append_run_sl _ rfl _ _ 64 rfl _ _ rfl rfl hrun ?_)
      obtain ⟨va, vc, rfl⟩ := own_slice HO.out
      go_wp2
      go_ret
      exact ⟨_, rfl, HO.out, HB.out⟩
    · obtain rfl : f = (k : Int) := by omega
      have hk0 : ¬ ((k : Int) < 0) := by omega
      clear hmax hk hf
      go_enter Try.func21, Try.ntmps21
      go_wp2_with fail
      refine HC.out.mono ?_
      rintro e w0 ⟨rfl, rfl⟩
      go_wp2_with (at_builtin; refine Lib.wpList_append_run_sl _ rfl _ _ 64 rfl _ _ rfl rfl hrun ?_)
      obtain ⟨va, vc, rfl⟩ := own_slice HO.out
      go_wp2
      go_ret
      exact ⟨_, rfl, HO.out, HB.out⟩
  · have hd : L.drop k = [] := List.drop_eq_nil_of_le (by omega)
    rw [hd]
    have HNIL : Hid (∀ w : World, w.ownsRow w.heap.size 92 8 (.slice none 0 0) ([] : List Ac).length (logC [])) := fun w => World.ownsRow_nil _ _ _ _
    by_cases hf : f < 0
    · have hk0 : k = 0 := by omega
      subst hk0
      have hn0 : L.length = 0 := by omega
      rw [hn0] at HC
      have hm0 : max f 0 = 0 := hmax
      clear hmax hk hn0 hlt hL hd HOWN
      go_enter Try.func21, Try.ntmps21
      go_wp2_with fail
      refine HC.out.mono ?_
      rintro e w0 ⟨rfl, rfl⟩
      go_wp2
      go_ret
      exact ⟨_, rfl, HNIL.out _, Below.refl _ _⟩
    · obtain rfl : f = (k : Int) := by omega
      have hk0 : ¬ ((k : Int) < 0) := by omega
      have hkn : (L.length : Int) ≤ (k : Int) := by omega
      clear hmax hk hlt hL hd HOWN hf
      generalize L.length = n at *
      go_enter Try.func21, Try.ntmps21
      go_wp2_with fail
      refine HC.out.mono ?_
      rintro e w0 ⟨rfl, rfl⟩
      go_wp2
      go_ret
      exact ⟨_, rfl, HNIL.out _, Below.refl _ _⟩
end Go.Proofs.Ytbmmicfdnfpcaaa
