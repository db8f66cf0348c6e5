/- The document's table as it lies: size, First, find, Get. -/
import Derived.Test.YtfpnpkpjkcmoaaaTabE
namespace Go.Proofs.Ytfpnpkpjkcmoaaa
open Go.ChangeShapes Go.WideShapes Go.ChangeAt Go.RowKit

def placeC (s : Tb) : List Value := (List.range (2 ^ s.k)).map fun q => .int .i64 ((s.P q : Int) - 1)
theorem placeC_len (s : Tb) : (placeC s).length = 2 ^ s.k := by simp [placeC]
theorem placeC_get (s : Tb) (q : Nat) (h : q < 2 ^ s.k) : (placeC s)[q]? = some (.int .i64 ((s.P q : Int) - 1)) := by simp [placeC, h]
structure RTab' (w : World) (base : Nat) (p : Value) (s : Tb) (G : List Nat) (X : Nat) (v u : Value) : Prop where
  p : p = .pointer (some ⟨X, 0, none⟩)
  m : w.heap[X]? = some (.cells #[.int .i64 (s.m : Int), v, u] 73 (0, 0))
  rows : w.ownsRow base 39 2 v s.R.length (rowsC s.R)
  place : w.ownsRow base 3 1 u (2 ^ s.k) (placeC s)
  F : G = X :: v.ownBlock.toList ++ u.ownBlock.toList
  bX : base ≤ X
def RTab (w : World) (base : Nat) (p : Value) (s : Tb) (G : List Nat) : Prop := ∃ X v u, RTab' w base p s G X v u
theorem RTab.lt {w : World} {base : Nat} {p : Value} {s : Tb} {G : List Nat} (h : RTab w base p s G) : ∀ b ∈ G, base ≤ b ∧ b < w.heap.size := by
  obtain ⟨X, v, u, h⟩ := h
  intro b hb
  rw [h.F] at hb
  simp only [List.cons_append, List.mem_cons, List.mem_append, Option.mem_toList] at hb
  rcases hb with rfl | hb | hb
  · exact ⟨h.bX, heap_lt h.m⟩
  · exact own_block h.rows b (by simpa using hb)
  · exact own_block h.place b (by simpa using hb)
theorem RTab.keep {w w' : World} {base : Nat} {p : Value} {s : Tb} {F G : List Nat} (h : RTab w base p s G) (k : Keep F w w') (hd : ∀ b ∈ G, b ∉ F) : RTab w' base p s G := by
  obtain ⟨X, v, u, h⟩ := h
  have hF := h.F
  refine ⟨X, v, u, h.p, ?_, own_keep h.rows k (fun b hb => hd b ?_), own_keep h.place k (fun b hb => hd b ?_), h.F, h.bX⟩
  · rw [k.block _ (heap_lt h.m) (hd _ (by rw [hF]; simp))]; exact h.m
  · rw [hF, hb]; simp
  · rw [hF, hb]; simp
theorem RTab.below {w w' : World} {base : Nat} {p : Value} {s : Tb} {G : List Nat} (h : RTab w base p s G) (k : Below w.heap.size w w') : RTab w' base p s G := h.keep (Keep.of_below k []) (fun _ _ => by simp)
theorem RTab.ptr {w : World} {base : Nat} {p : Value} {s : Tb} {G : List Nat} (h : RTab w base p s G) : ∃ X, p = .pointer (some ⟨X, 0, none⟩) := by
  obtain ⟨X, v, u, h⟩ := h
  exact ⟨X, h.p⟩
theorem RTab.base {w : World} {base base' : Nat} {p : Value} {s : Tb} {G : List Nat} (h : RTab w base p s G) (hb : base' ≤ base) : RTab w base' p s G := by
  obtain ⟨X, v, u, h⟩ := h
  exact ⟨X, v, u, h.p, h.m, own_base h.rows hb, own_base h.place hb, h.F, by have := h.bX; omega⟩

theorem rright_any (c : Int) (w : World) : Calls Try.prog 40 #[.int .i64 c] w fun e w' => e = .returned (.bool (right c)) ∧ w' = w := by
  by_cases h0 : 0 ≤ c
  · by_cases h1 : c < 1024
    · have hr : right c = true := by simp [right]; omega
      rw [hr]
      go_enter Try.func40, Try.ntmps40
      go_wp2
      go_ret
      exact ⟨rfl, rfl⟩
    · have hr : right c = false := by simp [right]; omega
      have hd : decide (c < 1024) = false := by simp; omega
      rw [hr]
      go_enter Try.func40, Try.ntmps40
      go_wp2
      go_ret
      exact ⟨rfl, rfl⟩
  · have hr : right c = false := by simp [right]; omega
    have hd : decide (0 ≤ c) = false := by simp; omega
    rw [hr]
    go_enter Try.func40, Try.ntmps40
    go_wp2
    go_ret
    exact ⟨rfl, rfl⟩
theorem rsize_any (m : Nat) (h1 : 1 ≤ m) (h : m ≤ 24) (w : World) : Calls Try.prog 47 #[.int .i64 (m : Int)] w fun e w' => e = .returned (.tuple #[.int .i64 ((2 ^ pw m : Nat) : Int), .int .i64 (64 - (pw m : Int))]) ∧ w' = w := by
  have hb := pw_bound m
  have HL : Hid (∀ j, j ≤ 6 → (2 ^ j < 2 * m ↔ j < pw m)) := fun j hj => pw_lt m j h1 h hj
  generalize pw m = k at *
  obtain ⟨N, hN⟩ : ∃ N, 2 ^ k = N := ⟨_, rfl⟩
  rw [hN]
  go_enter Try.func47, Try.ntmps47
  go_wp2
  go_loopw [4, 5] (fun nv bv wr => ∃ j : Nat, j ≤ k ∧ nv = .int .i64 ((2 ^ j : Nat) : Int) ∧ bv = .int .i64 (64 - (j : Int)) ∧ wr = w) (fun _ bv _ => (intOf bv).toNat)
  case atStart => exact ⟨0, Nat.zero_le _, rfl, rfl, rfl⟩
  case round =>
    obtain ⟨j, hj, rfl, rfl, rfl⟩ := hrel
    have hpj := pw_64 (show j ≤ 6 by omega)
    have hiff := HL.out j (by omega)
    have HS : Hid (2 * 2 ^ j = 2 ^ (j + 1)) := by rw [Hid, Nat.pow_succ]; omega
    by_cases hlt : j < k
    · have h2 := hiff.2 hlt
      have HX : Hid (∃ x, 2 ^ j = x ∧ x < 2 * m ∧ x ≤ 64) := ⟨_, rfl, h2, hpj⟩
      obtain ⟨x, hx, hx1, hx2⟩ := HX.out
      rw [hx]
      rw [hx] at HS
      clear hiff h2 hpj HX hx HL
      have hd : decide ((x : Int) < 2 * (m : Int)) = true := by simp; omega
      go_wp2
      go_roundw
      case rel => exact ⟨j + 1, by omega, by rw [← HS.out]; go_num, by go_num, by first | rfl | trivial⟩
      case measure => simp [intOf]; omega
    · have e : j = k := by omega
      subst e
      have h2 : ¬ 2 ^ j < 2 * m := fun h => absurd (hiff.1 h) (by omega)
      rw [hN] at h2 hpj ⊢
      have hd : decide ((N : Int) < 2 * (m : Int)) = false := by simp; omega
      clear hiff HL HS
      go_wp2
      go_ret2
      exact ⟨rfl, rfl⟩
theorem rfirst_any {w : World} {base : Nat} {p : Value} {s : Tb} {G : List Nat} (h : RTab w base p s G) (hi : Inv s) (c : Int) : Calls Try.prog 49 #[p, .int .i64 c] w fun e w' => e = .returned (.int .i64 (fst s.k c : Int)) ∧ w' = w := by
  obtain ⟨X, v, u, h⟩ := h
  obtain rfl := h.p
  have h0 : w.cell? ⟨X, 0, none⟩ = some (.int .i64 (s.m : Int)) := by rw [cell_at h.m]; rfl
  have HS : Hid (Calls Try.prog 47 #[.int .i64 (s.m : Int)] w fun e w' => e = .returned (.tuple #[.int .i64 ((2 ^ pw s.m : Nat) : Int), .int .i64 (64 - (pw s.m : Int))]) ∧ w' = w) := rsize_any s.m hi.m1 hi.m24 w
  have HP := first_eq hi.k6.2 c
  have hk := hi.k6
  rw [hi.k] at HP hk ⊢
  generalize ((fst (pw s.m) c : Nat) : Int) = z at *
  have HP' : Hid (wrap64 (IntKind.u64.wrap (IntKind.u64.wrap c * 11400714819323198485) / 2 ^ (64 - pw s.m)) = z) := HP
  clear HP h
  generalize ((2 ^ pw s.m : Nat) : Int) = nn at *
  generalize pw s.m = k at *
  go_enter Try.func49, Try.ntmps49
  go_wp2_with fail
  refine HS.out.mono ?_
  rintro e w' ⟨rfl, rfl⟩
  go_wp2
  go_ret
  refine ⟨?_, rfl⟩
  show Ending.returned (Value.int .i64 (wrap64 (IntKind.u64.wrap (IntKind.u64.wrap c * 11400714819323198485) / 2 ^ (64 - k)))) = _
  rw [HP'.out]

def findV (s : Tb) (c : Int) : Int := match at? s.R c with | some i => (i : Int) | none => -1
theorem rfind_any {w : World} {base : Nat} {p : Value} {s : Tb} {G : List Nat} (h : RTab w base p s G) (hi : Inv s) (c : Int) : Calls Try.prog 48 #[p, .int .i64 c] w fun e w' => e = .returned (.int .i64 (findV s c)) ∧ w' = w := by
  obtain ⟨X, v, u, h⟩ := h
  obtain rfl := h.p
  have hl : s.R.length ≤ 24 := Nat.le_trans hi.len hi.m24
  have h1 : w.cell? ⟨X, 1, none⟩ = some v := by rw [cell_at h.m]; rfl
  have HR : Hid (w.ownsRow base 39 2 v s.R.length (rowsC s.R)) := h.rows
  obtain ⟨va, vc, rfl⟩ := own_slice h.rows
  have HN : Hid (∀ i, i < s.R.length → (rowsC s.R)[i * 2]? = some (.int .i64 (s.R.getD i noWr).c)) := fun i hi => (rowsC_get s.R i hi).1
  have HF : Hid (∀ i, (h : i < s.R.length) → (s.R.getD i noWr).c = c → findV s c = i) := fun i h hc => by
    have : at? s.R c = some i := hi.at_eq h (by simpa [h] using hc)
    simp [findV, this]
  have HL : Hid ((∀ i, i < s.R.length → (s.R.getD i noWr).c ≠ c) → findV s c = -1) := fun hh => by
    have : at? s.R c = none := at_none_of (fun i hi hc => hh i hi (by simpa [hi] using hc))
    simp [findV, this]
  clear h hi
  generalize findV s c = z at *
  have HNN : Hid (s.R.length = s.R.length) := rfl
  generalize hn : s.R.length = n at *
  clear hn HNN
  go_enter Try.func48, Try.ntmps48
  go_wp2
  go_loopw [5] (fun iv wr => ∃ i : Nat, i ≤ n ∧ iv = .int .i64 i ∧ (∀ j, j < i → (s.R.getD j noWr).c ≠ c) ∧ wr = w) (fun iv _ => n - (intOf iv).toNat)
  case atStart => exact ⟨0, Nat.zero_le _, rfl, fun j hj => absurd hj (by omega), rfl⟩
  case round =>
    obtain ⟨i, hi, rfl, hbef, rfl⟩ := hrel
    have HB : Hid (∀ j, j < i → (s.R.getD j noWr).c ≠ c) := hbef
    clear hbef
    by_cases hlt : i < n
    · have hd : decide ((i : Int) < (n : Int)) = true := by simp; omega
      obtain ⟨g, cap, hform, hg1, hg2⟩ := HR.out.form (by omega)
      obtain ⟨rfl, _, rfl⟩ : va = some ⟨g, 0, none⟩ ∧ n = n ∧ vc = cap := by simpa using hform
      clear hform
      have hc := own_cells HR.out _ _ (HN.out i hlt)
      by_cases hz : (s.R.getD i noWr).c = c
      · have HE := HF.out i hlt hz
        subst HE
        rw [hz] at hc
        go_wp2
        go_ret
        exact ⟨rfl, rfl⟩
      · have HE : Hid (∀ j, j < i + 1 → (s.R.getD j noWr).c ≠ c) := fun j hj => by
          by_cases e : j < i
          · exact HB.out j e
          · obtain rfl : j = i := by omega
            exact hz
        have e1 : ((s.R.getD i noWr).c == c) = false := by simpa using hz
        generalize (s.R.getD i noWr).c = y at *
        go_wp2
        go_roundw
        case rel => exact ⟨i + 1, by omega, by go_num, HE.out, by first | rfl | trivial⟩
        case measure => simp [intOf]; omega
    · obtain rfl : i = n := by omega
      have HE := HL.out HB.out
      subst HE
      go_wp2
      go_ret
      exact ⟨rfl, rfl⟩
theorem rget_any {w : World} {base : Nat} {p : Value} {s : Tb} {G : List Nat} (h : RTab w base p s G) (hi : Inv s) (c : Int) : Calls Try.prog 39 #[p, .int .i64 c] w fun e w' => e = .returned (.tuple #[.int .i64 (getV s c), .bool (getY s c)]) ∧ Below w.heap.size w w' := by
  have HF : Hid (Calls Try.prog 48 #[p, .int .i64 c] w fun e w' => e = .returned (.int .i64 (findV s c)) ∧ w' = w) := rfind_any h hi c
  obtain ⟨X, v, u, h⟩ := h
  obtain rfl := h.p
  have hl : s.R.length ≤ 24 := Nat.le_trans hi.len hi.m24
  have h1 : w.cell? ⟨X, 1, none⟩ = some v := by rw [cell_at h.m]; rfl
  have HR : Hid (w.ownsRow base 39 2 v s.R.length (rowsC s.R)) := h.rows
  obtain ⟨va, vc, rfl⟩ := own_slice h.rows
  clear h hi
  cases ha : at? s.R c with
  | none =>
    have e1 : getV s c = 0 := by simp [getV, ha]
    have e2 : getY s c = false := by simp [getY, ha]
    have e3 : findV s c = -1 := by simp [findV, ha]
    rw [e3] at HF
    rw [e1, e2]
    go_enter Try.func39, Try.ntmps39
    go_wp2_with fail
    refine HF.out.mono ?_
    rintro e w' ⟨rfl, rfl⟩
    go_wp2
    go_ret2
    exact ⟨rfl, Below.refl _ _⟩
  | some i =>
    obtain ⟨hi, -⟩ := at_some ha
    have e1 : getV s c = (s.R.getD i noWr).v := by simp [getV, ha]
    have e2 : getY s c = true := by simp [getY, ha]
    have e3 : findV s c = (i : Int) := by simp [findV, ha]
    obtain ⟨g, cap, hform, hg1, hg2⟩ := HR.out.form (by omega)
    obtain ⟨rfl, _, rfl⟩ : va = some ⟨g, 0, none⟩ ∧ s.R.length = s.R.length ∧ vc = cap := by simpa using hform
    have hc := own_cells HR.out _ _ (rowsC_get s.R i hi).2
    clear hform ha
    rw [e3] at HF
    rw [e1, e2]
    generalize (s.R.getD i noWr).v = z at *
    generalize s.R.length = n at *
    clear HR
    go_enter Try.func39, Try.ntmps39
    go_wp2_with fail
    refine HF.out.mono ?_
    rintro e w' ⟨rfl, rfl⟩
    go_wp2
    go_ret2
    exact ⟨rfl, Below.refl _ _⟩
end Go.Proofs.Ytfpnpkpjkcmoaaa
