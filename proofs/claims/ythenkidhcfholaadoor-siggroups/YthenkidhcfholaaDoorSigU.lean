/- What the program's Union, Meet, Meets and Empty answer. -/
import Derived.Test.YthenkidhcfholaaDoorSigP
import Derived.Test.YthenkidhcfholaaDoorSigE
namespace Go.Proofs.YthenkidhcfholaaDoor
open Go.ChangeShapes Go.WideShapes Go.ChangeAt Go.RowKit

/-- The first j words worked upon. -/
def zipTo (f : Nat → Nat → Nat) (a b : List Nat) : Nat → List Nat
  | 0 => a
  | j + 1 => (zipTo f a b j).set j (f (a.getD j 0) (b.getD j 0))
theorem zipTo_len (f : Nat → Nat → Nat) (a b : List Nat) (j : Nat) : (zipTo f a b j).length = a.length := by
  induction j with
  | zero => rfl
  | succ j ih => simp [zipTo, ih]
theorem zipTo_get (f : Nat → Nat → Nat) (a b : List Nat) (j : Nat) (hj : j ≤ a.length) (i : Nat) : (zipTo f a b j).getD i 0 = if i < j then f (a.getD i 0) (b.getD i 0) else a.getD i 0 := by
  induction j with
  | zero => simp [zipTo]
  | succ j ih =>
    unfold zipTo
    rw [getD_set _ _ _ _ (by rw [zipTo_len]; omega), ih (by omega)]
    by_cases e : j = i
    · subst e; simp
    · simp only [e, if_false]
      by_cases h : i < j
      · simp [h, show i < j + 1 by omega]
      · simp [h, show ¬ i < j + 1 by omega]
theorem zipTo_all (f : Nat → Nat → Nat) (a b : List Nat) (ha : a.length = 8) (hb : b.length = 8) : zipTo f a b 8 = List.zipWith f a b := by
  apply List.ext_getElem (by rw [zipTo_len]; simp [ha, hb])
  intro i h1 h2
  have h := zipTo_get f a b 8 (by omega) i
  rw [zipTo_len] at h1
  have h' : i < 8 := by omega
  have e1 : (zipTo f a b 8)[i]'(by rw [zipTo_len]; exact h1) = (zipTo f a b 8).getD i 0 := by simp [zipTo_len, h1]
  rw [e1, h, if_pos h']
  simp [h1, show i < b.length by omega]

theorem at_of {cs : Array Value} {j : Nat} {v : Value} (h : cs[j]? = some v) : ∀ h' : j < cs.size, cs[j] = v := fun h' => by
  rw [Array.getElem?_eq_getElem h'] at h
  exact Option.some.inj h

theorem union_any (a b : List Nat) (ha : Ok a) (hb : Ok b) (w : World) :
    Calls Tryd.prog 16 #[sv a, sv b] w fun e w' => e = .returned (sv (uni a b)) ∧ Below w.heap.size w w' := by
  have HE : Hid (sc (zipTo (· ||| ·) a b 8) = sc (uni a b)) := by rw [zipTo_all _ a b ha.1 hb.1]; rfl
  have hz : (sc (uni a b)).size = 8 := by rw [sc_size]; exact (ok_uni ha hb).1
  have h1 := sc_one (uni a b)
  have hza := sc_size a
  have hzb := sc_size b
  rw [ha.1] at hza
  rw [hb.1] at hzb
  have hpb := pack8 (sc b) hzb
  unfold sv
  generalize sc (uni a b) = cr at *
  have hpr := pack8 cr hz
  go_enter Tryd.func16, Tryd.ntmps16
  go_wp2
  go_loopw [8] (fun i wr => ∃ j : Nat, j ≤ 8 ∧ i = .int .i64 j ∧ wr = ((w.alloc (.cells (sc (zipTo (· ||| ·) a b j)) 25)).alloc (.cells (sc b) 25)).alloc (.cells (sc nought) 25)) (fun i _ => 8 - (intOf i).toNat)
  case atStart => exact ⟨0, by omega, rfl, rfl⟩
  case round =>
    obtain ⟨j, hj, rfl, rfl⟩ := hrel
    by_cases hlt : j < 8
    · have hl : (zipTo (· ||| ·) a b j).length = 8 := by rw [zipTo_len, ha.1]
      have hzj := sc_size (zipTo (· ||| ·) a b j)
      rw [hl] at hzj
      have hg := sc_get (zipTo (· ||| ·) a b j) j (by omega)
      rw [zipTo_get _ a b j (by rw [ha.1]; omega), if_neg (by omega)] at hg
      have hgb := fun w => index_sig b j hb.1 hlt w
      have HN : Hid ((sc (zipTo (· ||| ·) a b j)).setIfInBounds j (Value.int .u64 (bits .or .u64 ((a.getD j 0 : Nat) : Int) ((b.getD j 0 : Nat) : Int))) = sc (zipTo (· ||| ·) a b (j + 1))) := by
        rw [bits_or_u64_nat _ _ (ha.2 _) (hb.2 _)]
        have := sc_set (zipTo (· ||| ·) a b j) j (a.getD j 0 ||| b.getD j 0)
        rw [Array.set!_eq_setIfInBounds] at this
        exact this
      generalize sc (zipTo (· ||| ·) a b j) = cs at *
      generalize a.getD j 0 = x at *
      generalize b.getD j 0 = y at *
      generalize sc b = cb at *
      have hg' := at_of hg
      clear hg
      go_wp2
      go_roundw
      case rel => exact ⟨j + 1, by omega, by go_num, by rw [← HN.out]⟩
      case measure => simp [intOf]; omega
    · have e : j = 8 := by omega
      subst e
      rw [HE.out]
      have hst := fun (w : World) (o1 o2 : Obj) (old : Array Value) (ho : old.size = 8) => store_3_2 (P := Tryd.prog) w o1 o2 25 old cr ho hz h1
      have hn : (sc nought).size = 8 := rfl
      generalize sc nought = cn at *
      go_wp2
      exact ret_sig rfl rfl (row_3_2 _ _ _ _) hz rfl ⟨rfl, below_a3 _ _ _ _⟩

theorem meet_any (a b : List Nat) (ha : Ok a) (hb : Ok b) (w : World) :
    Calls Tryd.prog 18 #[sv a, sv b] w fun e w' => e = .returned (sv (meet a b)) ∧ Below w.heap.size w w' := by
  have HE : Hid (sc (zipTo (· &&& ·) a b 8) = sc (meet a b)) := by rw [zipTo_all _ a b ha.1 hb.1]; rfl
  have hz : (sc (meet a b)).size = 8 := by rw [sc_size]; exact (ok_meet ha hb).1
  have h1 := sc_one (meet a b)
  have hza := sc_size a
  have hzb := sc_size b
  rw [ha.1] at hza
  rw [hb.1] at hzb
  have hpb := pack8 (sc b) hzb
  unfold sv
  generalize sc (meet a b) = cr at *
  have hpr := pack8 cr hz
  go_enter Tryd.func18, Tryd.ntmps18
  go_wp2
  go_loopw [8] (fun i wr => ∃ j : Nat, j ≤ 8 ∧ i = .int .i64 j ∧ wr = ((w.alloc (.cells (sc (zipTo (· &&& ·) a b j)) 25)).alloc (.cells (sc b) 25)).alloc (.cells (sc nought) 25)) (fun i _ => 8 - (intOf i).toNat)
  case atStart => exact ⟨0, by omega, rfl, rfl⟩
  case round =>
    obtain ⟨j, hj, rfl, rfl⟩ := hrel
    by_cases hlt : j < 8
    · have hl : (zipTo (· &&& ·) a b j).length = 8 := by rw [zipTo_len, ha.1]
      have hzj := sc_size (zipTo (· &&& ·) a b j)
      rw [hl] at hzj
      have hg := sc_get (zipTo (· &&& ·) a b j) j (by omega)
      rw [zipTo_get _ a b j (by rw [ha.1]; omega), if_neg (by omega)] at hg
      have hgb := fun w => index_sig b j hb.1 hlt w
      have HN : Hid ((sc (zipTo (· &&& ·) a b j)).setIfInBounds j (Value.int .u64 (bits .and .u64 ((a.getD j 0 : Nat) : Int) ((b.getD j 0 : Nat) : Int))) = sc (zipTo (· &&& ·) a b (j + 1))) := by
        rw [bits_and_u64_nat _ _ (ha.2 _) (hb.2 _)]
        have := sc_set (zipTo (· &&& ·) a b j) j (a.getD j 0 &&& b.getD j 0)
        rw [Array.set!_eq_setIfInBounds] at this
        exact this
      generalize sc (zipTo (· &&& ·) a b j) = cs at *
      generalize a.getD j 0 = x at *
      generalize b.getD j 0 = y at *
      generalize sc b = cb at *
      have hg' := at_of hg
      clear hg
      go_wp2
      go_roundw
      case rel => exact ⟨j + 1, by omega, by go_num, by rw [← HN.out]⟩
      case measure => simp [intOf]; omega
    · have e : j = 8 := by omega
      subst e
      rw [HE.out]
      have hst := fun (w : World) (o1 o2 : Obj) (old : Array Value) (ho : old.size = 8) => store_3_2 (P := Tryd.prog) w o1 o2 25 old cr ho hz h1
      have hn : (sc nought).size = 8 := rfl
      generalize sc nought = cn at *
      go_wp2
      exact ret_sig rfl rfl (row_3_2 _ _ _ _) hz rfl ⟨rfl, below_a3 _ _ _ _⟩

theorem empty_any (s : List Nat) (hs : Ok s) (w : World) :
    Calls Tryd.prog 24 #[sv s] w fun e w' => e = .returned (.bool (s == nought)) ∧ Below w.heap.size w w' := by
  have heq := fun w => eql_sig s nought hs.1 rfl w
  have hz := sc_size s
  rw [hs.1] at hz
  unfold sv
  have hn : sc nought = #[Value.int .u64 0, Value.int .u64 0, Value.int .u64 0, Value.int .u64 0, Value.int .u64 0, Value.int .u64 0, Value.int .u64 0, Value.int .u64 0] := rfl
  rw [hn] at heq
  generalize sc s = cs at *
  generalize (s == nought) = r at *
  have hpk := pack8 cs hz
  clear hs hn
  go_enter Tryd.func24, Tryd.ntmps24
  go_wp2
  go_ret
  exact ⟨rfl, below_a1 _ _⟩

theorem meets_any (a b : List Nat) (ha : Ok a) (hb : Ok b) (w : World) :
    Calls Tryd.prog 20 #[sv a, sv b] w fun e w' => e = .returned (.bool (!(meet a b == nought))) ∧ Below w.heap.size w w' := by
  have HM : Hid (∀ w, Calls Tryd.prog 18 #[sv a, sv b] w fun e w' => e = .returned (sv (meet a b)) ∧ Below w.heap.size w w') := fun w => meet_any a b ha hb w
  have HE : Hid (∀ w, Calls Tryd.prog 24 #[sv (meet a b)] w fun e w' => e = .returned (.bool (meet a b == nought)) ∧ Below w.heap.size w w') := fun w => empty_any _ (ok_meet ha hb) w
  have hza := sc_size a
  have hzb := sc_size b
  rw [ha.1] at hza
  rw [hb.1] at hzb
  unfold sv at *
  generalize (meet a b == nought) = r at *
  generalize sc (meet a b) = cm at *
  generalize sc a = ca at *
  generalize sc b = cb at *
  have hpa := pack8 ca hza
  have hpb := pack8 cb hzb
  clear ha hb
  go_enter Tryd.func20, Tryd.ntmps20
  go_wp2_with fail
  refine (HM.out _).mono ?_
  rintro e w1 ⟨rfl, hb1⟩
  have HB1 : Hid (Below w.heap.size w w1) := below_then (below_a2 _ _ _) hb1
  clear hb1
  go_wp2_with fail
  refine (HE.out _).mono ?_
  rintro e w2 ⟨rfl, hb2⟩
  have HB2 : Hid (Below w.heap.size w w2) := below_then HB1.out hb2
  clear hb2
  go_wp2
  go_ret
  exact ⟨rfl, HB2.out⟩
end Go.Proofs.YthenkidhcfholaaDoor
