/- What the document's answer does with bits of signatures: Bit, Put, With, Has. -/
import Derived.Test.YtfbbcjlbelnfaaaSigB
import Derived.Test.YtfbbcjlbelnfaaaSigP
namespace Go.Proofs.Ytfbbcjlbelnfaaa.Sg
open Go.ChangeShapes Go.WideShapes Go.ChangeAt Go.RowKit

theorem half (x j : Nat) : ((x / 2 ^ j : Nat) : Int) / 2 = ((x / 2 ^ (j + 1) : Nat) : Int) := by
  rw [Nat.pow_succ, ← Nat.div_div_eq_div_mul]
  omega

theorem rbit_any (s : List Nat) (hs : Ok s) (k : Nat) (hk : k < 512) (w : World) :
    Calls Try.prog 82 #[sv s, .int .i64 (k : Int)] w fun e w' => e = .returned (.bool (bit s k)) ∧ w' = w.alloc (.cells (sc s) 27) := by
  have hg := sc_get s (k / 64) (by rw [hs.1]; omega)
  have hz := sc_size s
  rw [hs.1] at hz
  have hx := hs.2 (k / 64)
  unfold sv bit
  generalize sc s = cs at *
  generalize s.getD (k / 64) 0 = x at *
  have hm : k % 64 < 64 := by omega
  have hke : (k : Int) % 64 = ((k % 64 : Nat) : Int) := by omega
  have hkm : (k : Int).tmod 64 = ((k % 64 : Nat) : Int) := by rw [Int.tmod_eq_emod_of_nonneg (by omega), hke]
  generalize k % 64 = m at *
  clear hs
  go_enter Try.func82, Try.ntmps82
  go_wp2
  go_loop [5, 6] (fun v i => ∃ j : Nat, j ≤ m ∧ i = .int .i64 j ∧ v = .int .u64 ((x / 2 ^ j : Nat) : Int)) (fun _ i => m - (intOf i).toNat)
  case atStart => exact ⟨0, Nat.zero_le _, rfl, by simp⟩
  case round =>
    obtain ⟨j, hj, rfl, rfl⟩ := hrel
    have HH : Hid (((x / 2 ^ j : Nat) : Int) / 2 = ((x / 2 ^ (j + 1) : Nat) : Int)) := half x j
    have HB : Hid (((x / 2 ^ j) % 2 == 1) = x.testBit j) := bit_div x j
    have hb : x / 2 ^ j ≤ 18446744073709551615 := by
      have := Nat.div_le_self x (2 ^ j)
      omega
    generalize x / 2 ^ j = y at *
    by_cases hlt : j < m
    · go_wp2
      go_round
      case rel => exact ⟨j + 1, by omega, by go_num, by rw [HH.out]⟩
      case measure => simp [intOf]; omega
    · have e : j = m := by omega
      subst e
      go_wp2
      go_ret
      refine ⟨?_, rfl⟩
      rw [← HB.out]
      have : ((y : Int) % 2 == 1) = (y % 2 == 1) := by
        rw [Bool.eq_iff_iff]
        simp
        omega
      simp [this]

theorem dbl (j : Nat) : (2 ^ j : Nat) + (2 ^ j : Nat) = 2 ^ (j + 1) := by rw [Nat.pow_succ]; omega

theorem rput_any (s : List Nat) (hs : Ok s) (k : Nat) (hk : k < 512) (w : World) :
    Calls Try.prog 63 #[sv s, .int .i64 (k : Int)] w fun e w' => e = .returned (sv (put s k)) ∧ Below w.heap.size w w' := by
  have HB : Hid (∀ w, Calls Try.prog 82 #[sv s, .int .i64 (k : Int)] w fun e w' => e = .returned (.bool (bit s k)) ∧ w' = w.alloc (.cells (sc s) 27)) := fun w => rbit_any s hs k hk w
  unfold sv at HB
  have hg := sc_get s (k / 64) (by rw [hs.1]; omega)
  have hz := sc_size s
  rw [hs.1] at hz
  have h1 := sc_one s
  unfold sv
  by_cases hb : bit s k = true
  · rw [put_had hs k hk hb]
    rw [hb] at HB
    generalize sc s = cs at *
    go_enter Try.func63, Try.ntmps63
    have hpk := pack8 cs hz
    have hst := fun (w : World) (o1 o3 : Obj) (old : Array Value) (ho : old.size = 8) => store_3_1 (P := Try.prog) w o1 o3 27 old cs ho hz h1
    go_wp2_with fail
    refine (HB.out _).mono ?_
    rintro e w' ⟨rfl, rfl⟩
    go_wp2
    exact ret_sig rfl rfl (row_3_1 _ _ _ _) hz rfl ⟨rfl, below_a3 _ _ _ _⟩
  · have hb' : bit s k = false := by simpa using hb
    have HP : Hid (sc (put s k) = (sc s).set! (k / 64) (.int .u64 ((s.getD (k / 64) 0 + 2 ^ (k % 64) : Nat) : Int))) := by
      rw [sc_set]
      unfold put
      rw [add_bit _ _ hb']
      rfl
    have hz' : (sc (put s k)).size = 8 := by rw [sc_size]; exact (ok_put hs k hk).1
    have h1' := sc_one (put s k)
    rw [hb'] at HB
    have hx := hs.2 (k / 64)
    have hx2 : s.getD (k / 64) 0 + 2 ^ (k % 64) < 18446744073709551616 := by
      rw [add_bit _ _ hb']
      exact or_lt64 _ _ hx (pow_lt64 _ (by omega))
    generalize sc (put s k) = cs' at *
    clear hb hb'
    generalize sc s = cs at *
    generalize s.getD (k / 64) 0 = x at *
    have hm : k % 64 < 64 := by omega
    have hke : (k : Int) % 64 = ((k % 64 : Nat) : Int) := by omega
    have hkm : (k : Int).tmod 64 = ((k % 64 : Nat) : Int) := by rw [Int.tmod_eq_emod_of_nonneg (by omega), hke]
    generalize k % 64 = m at *
    clear hs
    have hpk := pack8 cs hz
    go_enter Try.func63, Try.ntmps63
    go_wp2_with fail
    refine (HB.out _).mono ?_
    rintro e w' ⟨rfl, rfl⟩
    go_wp2
    go_loop [6, 7] (fun v i => ∃ j : Nat, j ≤ m ∧ i = .int .i64 j ∧ v = .int .u64 ((2 ^ j : Nat) : Int)) (fun _ i => m - (intOf i).toNat)
    case atStart => exact ⟨0, Nat.zero_le _, rfl, by simp⟩
    case round =>
      obtain ⟨j, hj, rfl, rfl⟩ := hrel
      by_cases hlt : j < m
      · have HD : Hid ((2 ^ j : Nat) + (2 ^ j : Nat) = 2 ^ (j + 1)) := dbl j
        have hd : 2 ^ j + 2 ^ j < 18446744073709551616 := by rw [HD.out]; exact pow_lt64 _ (by omega)
        generalize 2 ^ j = y at *
        go_wp2
        go_round
        case rel => exact ⟨j + 1, by omega, by go_num, by rw [← HD.out]; go_num⟩
        case measure => simp [intOf]; omega
      · have e : j = m := by omega
        subst e
        generalize 2 ^ j = y at *
        have hset : cs.setIfInBounds (k / 64) (Value.int .u64 ((x : Int) + (y : Int))) = cs' := by rw [HP.out]; simp
        have hpk' := pack8 cs' hz'
        have hst := fun (w : World) (o1 o3 : Obj) (old : Array Value) (ho : old.size = 8) => store_3_1 (P := Try.prog) w o1 o3 27 old cs' ho hz' h1'
        go_wp2
        exact ret_sig rfl rfl (row_3_1 _ _ _ _) hz' rfl ⟨rfl, below_a3 _ _ _ _⟩

theorem rwith_any (s : List Nat) (hs : Ok s) (c : Int) (w : World) :
    Calls Try.prog 41 #[sv s, .int .i64 c] w fun e w' => e = .returned (sv (put s (sigN c))) ∧ Below w.heap.size w w' := by
  have HP : Hid (∀ w, Calls Try.prog 63 #[sv s, .int .i64 (sigN c : Int)] w fun e w' => e = .returned (sv (put s (sigN c))) ∧ Below w.heap.size w w') := fun w => rput_any s hs _ (sigN_lt c) w
  have HS : Hid (∀ w, Calls Try.prog 62 #[.int .i64 c] w fun e w' => e = .returned (.int .i64 (sigN c : Int)) ∧ w' = w) := fun w => by
    have := rsighash_any c w
    rwa [sigN_cast] at this
  have hz' : (sc (put s (sigN c))).size = 8 := by rw [sc_size]; exact (ok_put hs _ (sigN_lt c)).1
  have h1' := sc_one (put s (sigN c))
  have hz := sc_size s
  rw [hs.1] at hz
  unfold sv at *
  have hpk := pack8 (sc s) hz
  generalize sc (put s (sigN c)) = cs' at *
  generalize sc s = cs at *
  clear hs
  go_enter Try.func41, Try.ntmps41
  go_wp2_with fail
  refine (HS.out _).mono ?_
  rintro e w' ⟨rfl, rfl⟩
  go_wp2_with fail
  refine (HP.out _).mono ?_
  rintro e w1 ⟨rfl, hb⟩
  have hr := (hb.block (w.heap.size + 1) (by simp)).trans (heap_alloc2_new _ _ _)
  have hst := store_row (P := Try.prog) hr rfl hz' h1'
  have HR : Hid (w1.heap[w.heap.size + 1]? = _) := hr
  have HB : Hid (Below w.heap.size w w1) := below_then (below_a2 _ _ _) hb
  clear hr hb
  go_wp2
  exact ret_sig rfl rfl (setRow_heap _ _ _ _ _ _ HR.out) hz' rfl ⟨rfl, below_setRow HB.out _ (by omega) _⟩
end Go.Proofs.Ytfbbcjlbelnfaaa.Sg
/- A list of numbers behind a slice, the signature of a list of cells, and what the program's Of answers. -/
namespace Go.Proofs.Ytfbbcjlbelnfaaa.Sg
open Go.ChangeShapes Go.WideShapes Go.ChangeAt Go.RowKit

/-- A list of numbers lies behind a slice. -/
def Lst (w : World) (v : Value) (l : List Int) : Prop := ∃ a cap, v = .slice a l.length cap ∧ l.length ≤ 9223372036854775807 ∧ (l = [] ∨ ∃ x, a = some x ∧ ∀ i, i < l.length → w.cell? (x.add i) = some (.int .i64 (l.getD i 0)))
theorem Lst.later {w w' : World} {v : Value} {l : List Int} (h : Lst w v l) (hb : Below w.heap.size w w') : Lst w' v l := by
  obtain ⟨a, cap, hv, hm, hl⟩ := h
  refine ⟨a, cap, hv, hm, ?_⟩
  rcases hl with h0 | ⟨x, hx, hc⟩
  · exact Or.inl h0
  · exact Or.inr ⟨x, hx, fun i hi => cell_later hb (hc i hi)⟩
theorem add_at (g i : Nat) : (⟨g, 0, none⟩ : Addr).add i = ⟨g, i, none⟩ := by unfold Addr.add; split <;> simp_all

/-! ### the signature of a list of cells -/
def ofTo (l : List Int) (i : Nat) : List Nat := (l.take i).foldl (fun s c => put s (sigN c)) nought
def ofAll (l : List Int) : List Nat := l.foldl (fun s c => put s (sigN c)) nought
theorem ofTo_zero (l : List Int) : ofTo l 0 = nought := rfl
theorem ofTo_all (l : List Int) : ofTo l l.length = ofAll l := by unfold ofTo ofAll; rw [List.take_length]
theorem ofTo_succ (l : List Int) (i : Nat) (h : i < l.length) : ofTo l (i + 1) = put (ofTo l i) (sigN (l.getD i 0)) := by
  unfold ofTo
  rw [List.take_add_one, List.foldl_append]
  simp [h]
theorem ok_ofTo (l : List Int) (i : Nat) : Ok (ofTo l i) := by
  unfold ofTo
  generalize l.take i = m
  suffices h : ∀ (m : List Int) (s : List Nat), Ok s → Ok (m.foldl (fun s c => put s (sigN c)) s) from h m nought ok_nought
  intro m
  induction m with
  | nil => intro s hs; exact hs
  | cons c m ih => intro s hs; exact ih _ (ok_put hs _ (sigN_lt c))
theorem ok_ofAll (l : List Int) : Ok (ofAll l) := by rw [← ofTo_all]; exact ok_ofTo _ _

/-- Two rows, one behind the other. -/
def Two (b : Nat) (w : World) (c0 c1 : Array Value) : Prop := w.heap[b]? = some (.cells c0 27 (0, 0)) ∧ w.heap[b + 1]? = some (.cells c1 27 (0, 0))
theorem Two.later {b : Nat} {w w' : World} {c0 c1 : Array Value} (h : Two b w c0 c1) (hb : Below w.heap.size w w') : Two b w' c0 c1 := ⟨row_later h.1 hb, row_later h.2 hb⟩
theorem Two.set1 {b : Nat} {w : World} {c0 c1 : Array Value} (h : Two b w c0 c1) (c : Array Value) : Two b (w.setRow (b + 1) c) c0 c :=
  ⟨by rw [setRow_other _ _ _ _ (by omega)]; exact h.1, setRow_heap _ _ _ _ _ _ h.2⟩
theorem Two.new (w : World) (c0 c1 : Array Value) : Two w.heap.size ((w.alloc (.cells c0 27)).alloc (.cells c1 27)) c0 c1 :=
  ⟨heap_alloc2_old _ _ _, heap_alloc2_new _ _ _⟩

theorem below_undrew {w w' : World} (h : Below w.drew.heap.size w.drew w') : Below w.heap.size w w' := ⟨h.os, h.tape, h.output, h.size, h.block⟩
end Go.Proofs.Ytfbbcjlbelnfaaa.Sg
