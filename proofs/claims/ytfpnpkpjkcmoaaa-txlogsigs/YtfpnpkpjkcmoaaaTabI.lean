/- The document's List and Slots; when two lists are the same. -/
import Derived.Test.YtfpnpkpjkcmoaaaTabH
namespace Go.Proofs.Ytfpnpkpjkcmoaaa
open Go.ChangeShapes Go.WideShapes Go.ChangeAt Go.RowKit

theorem rowsC_take (R : List Wr) (q : Nat) (h : q < R.length) : rowsC (R.take (q + 1)) = rowsC (R.take q) ++ [.int .i64 (R.getD q noWr).c, .int .i64 (R.getD q noWr).v] := by
  rw [List.take_add_one, List.getElem?_eq_getElem h, Option.toList_some, rowsC_snoc]
  simp [h]

set_option maxRecDepth 10000 in
set_option maxHeartbeats 800000 in
theorem rlist_any {w : World} {base : Nat} {p : Value} {s : Tb} {G : List Nat} (h : RTab w base p s G) (hi : Inv s) :
    Calls Try.prog 42 #[p] w fun e w' => ∃ v, e = .returned v ∧ w'.ownsRow w.heap.size 39 2 v s.R.length (rowsC s.R) ∧ Below w.heap.size w w' := by
  obtain ⟨i0, hinf, hz0, hz1, hz2⟩ := info_parts info_wr
  have hl : s.R.length ≤ 24 := Nat.le_trans hi.len hi.m24
  obtain ⟨X, v, u, h⟩ := h
  obtain rfl := h.p
  have h1 : w.cell? ⟨X, 1, none⟩ = some v := by rw [cell_at h.m]; rfl
  have hX : X < w.heap.size := heap_lt h.m
  have HOWN : Hid (w.ownsRow base 39 2 v s.R.length (rowsC s.R)) := h.rows
  obtain ⟨va, vc, rfl⟩ := own_slice h.rows
  have HG : Hid (∀ q, q < s.R.length → (rowsC s.R)[q * 2]? = some (.int .i64 (s.R.getD q noWr).c) ∧ (rowsC s.R)[q * 2 + 1]? = some (.int .i64 (s.R.getD q noWr).v)) := fun q hq => rowsC_get s.R q hq
  have HT : Hid (∀ q, q < s.R.length → rowsC (s.R.take (q + 1)) = rowsC (s.R.take q) ++ [.int .i64 (s.R.getD q noWr).c, .int .i64 (s.R.getD q noWr).v]) := fun q hq => rowsC_take s.R q hq
  have HE : Hid (rowsC (s.R.take s.R.length) = rowsC s.R) := by rw [Hid, List.take_length]
  clear h hi
  generalize hn : s.R.length = n at *
  clear hn
  go_enter Try.func42, Try.ntmps42
  go_wp2
  go_loopw [3, 4] (fun ov iv wr => ∃ q : Nat, q ≤ n ∧ iv = .int .i64 q ∧ wr.ownsRow w.heap.size 39 2 ov q (rowsC (s.R.take q)) ∧ Below w.heap.size w wr) (fun _ iv _ => n - (intOf iv).toNat)
  case atStart => exact ⟨0, Nat.zero_le _, rfl, by simpa [rowsC] using World.ownsRow_nil _ _ _ _, Below.refl _ _⟩
  case round =>
    obtain ⟨q, hq, rfl, how, hb⟩ := hrel
    have HO : Hid (wr.ownsRow w.heap.size 39 2 u3 q (rowsC (s.R.take q))) := how
    have HB : Hid (Below w.heap.size w wr) := hb
    have hc1 : wr.cell? ⟨X, 1, none⟩ = some (.slice va n vc) := cell_later hb hX h1
    obtain ⟨av, cv, rfl⟩ := own_slice how
    clear how hb
    by_cases hlt : q < n
    · have hd : decide ((q : Int) < (n : Int)) = true := by simp; omega
      obtain ⟨g, cap, hform, hg1, hg2⟩ := HOWN.out.form (by omega)
      obtain ⟨rfl, _, rfl⟩ : va = some ⟨g, 0, none⟩ ∧ n = n ∧ vc = cap := by simpa using hform
      clear hform
      obtain ⟨k1, k2⟩ := HG.out q hlt
      have d0 : wr.cell? ⟨g, q * 2, none⟩ = some (.int .i64 (s.R.getD q noWr).c) := cell_later HB.out hg2 (own_cells HOWN.out _ _ k1)
      have d1 : wr.cell? ⟨g, q * 2 + 1, none⟩ = some (.int .i64 (s.R.getD q noWr).v) := cell_later HB.out hg2 (own_cells HOWN.out _ _ k2)
      have HNX := HT.out q hlt
      have HNX' : Hid (rowsC (s.R.take (q + 1)) = rowsC (s.R.take q) ++ [.int .i64 (s.R.getD q noWr).c, .int .i64 (s.R.getD q noWr).v]) := HNX
      clear HNX k1 k2
      generalize (s.R.getD q noWr).c = zc at *
      generalize (s.R.getD q noWr).v = zv at *
      generalize rowsC (s.R.take q) = xs at *
      have hsz := HB.out.size
      go_wp2_with (at_builtin; refine wpList_append_lies _ rfl _ _ 35 rfl w.heap.size 39 i0 _ 2 16 Try.underlying35 hinf hz0 hz1 hz2 rfl (by decide) _ _ _ rfl (HO.out.alloc _) ⟨wr.heap.size, 0, none⟩ 1 1 [.int .i64 zc, .int .i64 zv] rfl rfl ?c1 ?c2 (by decide) ?c3 ?c4 ?c5 _ rfl ?_)
      case c2 => simp [Value.oneCell']
      case c3 => unfold maxLen; omega
      case c4 => omega
      case c5 => first | omega | (simp; omega)
      intro gg cap' w3 hown1 hgrow hat _
      have HO3 : Hid (w3.ownsRow w.heap.size 39 2 (.slice (some ⟨gg, 0, none⟩) (q + 1) cap') (q + 1) (rowsC (s.R.take (q + 1)))) := by
        rw [Hid, HNX'.out]; exact hown1
      have HB3 : Hid (Below w.heap.size w w3) := (below_alloc HB.out _).grown hgrow (by simp; omega) (fun b hb => (own_block HO.out b hb).1)
      clear hown1 hgrow hat d0 d1
      go_wp2
      go_roundw
      case rel => exact ⟨q + 1, by omega, by go_num, HO3.out, HB3.out⟩
      case measure => simp [intOf]; omega
    · obtain rfl : q = n := by omega
      go_wp2
      go_ret
      exact ⟨_, rfl, by rw [← HE.out]; exact HO.out, HB.out⟩

theorem slotsC_get (s : Tb) (q : Nat) (h : q < 2 ^ s.k) : (slotsC s)[q]? = some (.int .i64 (slotV s q)) := by simp [slotsC, h]
theorem samew_any (w : World) {b1 b2 : Nat} {v u : Value} {R : List Wr} (h1 : w.ownsRow b1 39 2 v R.length (rowsC R)) (h2 : w.ownsRow b2 39 2 u R.length (rowsC R)) (hl : R.length ≤ 1000000) :
    Calls Try.prog 28 #[v, u] w fun e w' => e = .returned (.bool true) ∧ ∃ n, w' = w.drewN n := by
  have H1 : Hid (w.ownsRow b1 39 2 v R.length (rowsC R)) := h1
  have H2 : Hid (w.ownsRow b2 39 2 u R.length (rowsC R)) := h2
  obtain ⟨va, vc, rfl⟩ := own_slice h1
  obtain ⟨ua, uc, rfl⟩ := own_slice h2
  have HG : Hid (∀ q, q < R.length → (rowsC R)[q * 2]? = some (.int .i64 (R.getD q noWr).c) ∧ (rowsC R)[q * 2 + 1]? = some (.int .i64 (R.getD q noWr).v)) := fun q hq => rowsC_get R q hq
  clear h1 h2
  generalize hn : R.length = n at *
  clear hn
  have hne : ((n : Int) != (n : Int)) = false := by simp
  go_enter Try.func28, Try.ntmps28
  go_wp2
  go_loopw [5] (fun i wr => ∃ j : Nat, j ≤ n ∧ i = .int .i64 j ∧ ∃ q, wr = w.drewN q) (fun i _ => n - (intOf i).toNat)
  case atStart => exact ⟨0, Nat.zero_le _, rfl, 0, rfl⟩
  case round =>
    obtain ⟨j, hj, rfl, hwr⟩ := hrel
    have HW : Hid (∃ q, wr = w.drewN q) := hwr
    clear hwr
    by_cases hlt : j < n
    · have hd : decide ((j : Int) < (n : Int)) = true := by simp; omega
      obtain ⟨g, cap, hform, _, _⟩ := H1.out.form (by omega)
      obtain ⟨rfl, _, rfl⟩ : va = some ⟨g, 0, none⟩ ∧ n = n ∧ vc = cap := by simpa using hform
      clear hform
      obtain ⟨g', cap', hform, _, _⟩ := H2.out.form (by omega)
      obtain ⟨rfl, _, rfl⟩ : ua = some ⟨g', 0, none⟩ ∧ n = n ∧ uc = cap' := by simpa using hform
      clear hform
      obtain ⟨k1, k2⟩ := HG.out j hlt
      have d0 : wr.cell? ⟨g, j * 2, none⟩ = some (.int .i64 (R.getD j noWr).c) := by obtain ⟨q, rfl⟩ := HW.out; exact own_cells H1.out _ _ k1
      have d1 : wr.cell? ⟨g, j * 2 + 1, none⟩ = some (.int .i64 (R.getD j noWr).v) := by obtain ⟨q, rfl⟩ := HW.out; exact own_cells H1.out _ _ k2
      have e0 : wr.cell? ⟨g', j * 2, none⟩ = some (.int .i64 (R.getD j noWr).c) := by obtain ⟨q, rfl⟩ := HW.out; exact own_cells H2.out _ _ k1
      have e1 : wr.cell? ⟨g', j * 2 + 1, none⟩ = some (.int .i64 (R.getD j noWr).v) := by obtain ⟨q, rfl⟩ := HW.out; exact own_cells H2.out _ _ k2
      clear k1 k2
      generalize (R.getD j noWr).c = zc at *
      generalize (R.getD j noWr).v = zv at *
      go_wp2
      go_quiet (fail)
      go_wp2
      go_roundw
      case rel => exact ⟨j + 1, by omega, by go_num, by obtain ⟨q, rfl⟩ := HW.out; exact ⟨_, World.drewN_drewN _ _ _⟩⟩
      case measure => simp [intOf]; omega
    · obtain rfl : j = n := by omega
      go_wp2
      go_ret
      exact ⟨rfl, HW.out⟩