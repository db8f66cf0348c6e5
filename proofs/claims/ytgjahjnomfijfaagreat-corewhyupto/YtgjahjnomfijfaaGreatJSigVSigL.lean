/- What the document's answer tells of unions and meets. -/
import Derived.Test.YtgjahjnomfijfaaGreatJSigRSigF
import Derived.Test.YtgjahjnomfijfaaGreatJSigESigU
namespace Go.Proofs.YtgjahjnomfijfaaGreat.Sg
open Go.ChangeShapes Go.WideShapes Go.ChangeAt Go.RowKit
def Four (b : Nat) (w : World) (c0 c1 c2 c3 : Array Value) : Prop :=
 w.heap[b]? = some (.cells c0 51 (0, 0)) ∧ w.heap[b + 1]? = some (.cells c1 51 (0, 0)) ∧ w.heap[b + 1 + 1]? = some (.cells c2 51 (0, 0)) ∧ w.heap[b + 1 + 1 + 1]? = some (.cells c3 51 (0, 0))
theorem Four.later {b : Nat} {w w' : World} {c0 c1 c2 c3 : Array Value} (h : Four b w c0 c1 c2 c3) (hb : Below w.heap.size w w') : Four b w' c0 c1 c2 c3 :=
 ⟨row_later h.1 hb, row_later h.2.1 hb, row_later h.2.2.1 hb, row_later h.2.2.2 hb⟩
theorem Four.set3 {b : Nat} {w : World} {c0 c1 c2 c3 : Array Value} (h : Four b w c0 c1 c2 c3) (c : Array Value) : Four b (w.setRow (b + 1 + 1 + 1) c) c0 c1 c2 c :=
 ⟨by rw [setRow_other _ _ _ _ (by omega)]; exact h.1, by rw [setRow_other _ _ _ _ (by omega)]; exact h.2.1, by rw [setRow_other _ _ _ _ (by omega)]; exact h.2.2.1, setRow_heap _ _ _ _ _ _ h.2.2.2⟩
theorem Four.new (w : World) (c0 c1 c2 c3 : Array Value) : Four w.heap.size ((((w.alloc (.cells c0 51)).alloc (.cells c1 51)).alloc (.cells c2 51)).alloc (.cells c3 51)) c0 c1 c2 c3 := by
 refine ⟨?_, ?_, ?_, ?_⟩
 ·rw [Below.heap_alloc _ _ _ (by simp; omega), Below.heap_alloc _ _ _ (by simp; omega), Below.heap_alloc _ _ _ (by simp)]; exact heap_alloc_new _ _
 ·rw [Below.heap_alloc _ _ _ (by simp)]; exact row_3_1 _ _ _ _
 ·rw [Below.heap_alloc _ _ _ (by simp)]; exact row_3_2 _ _ _ _
 ·have := row_3_2 (w.alloc (.cells c0 51)) (.cells c1 51) (.cells c2 51) (.cells c3 51); simpa using this
set_option maxRecDepth 10000 in
theorem rmeet_any (a b : List Nat) (ha : Ok a) (hb : Ok b) (w : World) :
  Calls Tryz.prog 39 #[sv a, sv b] w fun e w' => e = .returned (sv (meet a b)) ∧ Below w.heap.size w w' := by
 have HA : Hid (∀ k : Nat, k < 512 → ∀ w, Calls Tryz.prog 54 #[.agg (sc a), .int .i64 (k : Int)] w fun e w' => e = .returned (.bool (bit a k)) ∧ Below w.heap.size w w') := fun k hk w => (rbit_any a ha k hk w).mono fun e w' ⟨h, h'⟩ => ⟨h, by rw [h']; exact below_a1 _ _⟩
 have HB : Hid (∀ k : Nat, k < 512 → ∀ w, Calls Tryz.prog 54 #[.agg (sc b), .int .i64 (k : Int)] w fun e w' => e = .returned (.bool (bit b k)) ∧ Below w.heap.size w w') := fun k hk w => (rbit_any b hb k hk w).mono fun e w' ⟨h, h'⟩ => ⟨h, by rw [h']; exact below_a1 _ _⟩
 have HO : Hid (Ok a ∧ Ok b) := ⟨ha, hb⟩
 have hza := sc_size a
 have hzb := sc_size b
 rw [ha.1] at hza
 rw [hb.1] at hzb
 clear ha hb
 unfold sv
 generalize sc a = ca at *
 generalize sc b = cb at *
 go_enter Tryz.func39, Tryz.ntmps39
 go_wp2
 go_loopw [6] (fun i wr => ∃ k : Nat, k ≤ 512 ∧ i = .int .i64 k ∧ ∃ o, Ok o ∧ (∀ j, j < 512 → bit o j = (decide (j < k) && (bit a j && bit b j))) ∧ Four w.heap.size wr ca cb (sc nought) (sc o) ∧ Below w.heap.size w wr) (fun i _ => 512 - (intOf i).toNat)
 case atStart => exact ⟨0, by omega, rfl, nought, ok_nought, fun j _ => by simp [bit_nought], Four.new _ _ _ _ _, below_a4 _ _ _ _ _⟩
 case round =>
  obtain ⟨k, hk, rfl, o, ho, hbits, hf, hbel⟩ := hrel
  have HF : Hid (Four w.heap.size wr ca cb (sc nought) (sc o)) := hf
  have HL : Hid (Below w.heap.size w wr) := hbel
  have HT : Hid (∀ j, j < 512 → bit o j = (decide (j < k) && (bit a j && bit b j))) := hbits
  have HK : Hid (Ok o) := ho
  have hzo := sc_size o
  rw [ho.1] at hzo
  clear hf hbel hbits ho
  by_cases hlt : k < 512
  ·have HP : Hid (∀ w, Calls Tryz.prog 55 #[.agg (sc o), .int .i64 (k : Int)] w fun e w' => e = .returned (.agg (sc (put o k))) ∧ Below w.heap.size w w') := fun w => rput_any o HK.out k hlt w
   have HA' := HA.out k hlt
   have HB' := HB.out k hlt
   have HR : Hid ((bit a k && bit b k) = true → ∀ j, j < 512 → bit (put o k) j = (decide (j < k + 1) && (bit a j && bit b j))) := by
    intro h j hj
    rw [bit_put HK.out k j hlt, HT.out j hj]
    by_cases e : j = k
    ·subst e; simp [h]
    ·have : (j < k + 1) ↔ (j < k) := by omega
     simp [e, this]
   have HS : Hid ((bit a k && bit b k) = false → ∀ j, j < 512 → bit o j = (decide (j < k + 1) && (bit a j && bit b j))) := by
    intro h j hj
    rw [HT.out j hj]
    by_cases e : j = k
    ·subst e; simp [h]
    ·have : (j < k + 1) ↔ (j < k) := by omega
     simp [this]
   have HQ : Hid (Ok (put o k)) := ok_put HK.out k hlt
   have hzp : (sc (put o k)).size = 8 := by rw [sc_size]; exact HQ.out.1
   have h1p := sc_one (put o k)
   generalize bit a k = xa at *
   generalize bit b k = xb at *
   generalize hcp : sc (put o k) = cp at *
   have HCP : Hid (sc (put o k) = cp) := hcp
   clear hcp
   generalize hco : sc o = co at *
   have HCO : Hid (sc o = co) := hco
   clear hco
   have hpa := pack8 ca hza
   have hpb := pack8 cb hzb
   have hpo := pack8 co hzo
   have hl0 := row_cells HF.out.1 hza
   have HA2 : Hid (∀ w, Calls Tryz.prog 54 #[.agg ca, .int .i64 (k : Int)] w fun e w' => e = .returned (.bool xa) ∧ Below w.heap.size w w') := HA'
   have HB2 : Hid (∀ w, Calls Tryz.prog 54 #[.agg cb, .int .i64 (k : Int)] w fun e w' => e = .returned (.bool xb) ∧ Below w.heap.size w w') := HB'
   clear HA' HB'
   go_wp2_with fail
   refine (HA2.out _).mono ?_
   rintro e w1 ⟨rfl, hb1⟩
   have HF1 : Hid (Four w.heap.size w1 ca cb (sc nought) co) := HF.out.later hb1
   have HL1 : Hid (Below w.heap.size w w1) := below_then HL.out hb1
   clear hb1 hl0
   have hl1 := row_cells HF1.out.2.1 hzb
   go_wp2_with fail
   refine (HB2.out _).mono ?_
   rintro e w2 ⟨rfl, hb2⟩
   have HF2 : Hid (Four w.heap.size w2 ca cb (sc nought) co) := HF1.out.later hb2
   have HL2 : Hid (Below w.heap.size w w2) := below_then HL1.out hb2
   clear hb2 hl1
   cases hor : (xa && xb)
   ·have HS2 := HS.out hor
    have HS3 : Hid (∀ j, j < 512 → bit o j = (decide (j < k + 1) && (bit a j && bit b j))) := HS2
    clear HS2
    have hor' : xa = false ∨ xa = true ∧ xb = false := by revert hor; cases xa <;> cases xb <;> simp
    clear hor
    rcases hor' with rfl | ⟨rfl, rfl⟩
    all_goals
     go_wp2
     go_roundw
     case rel => exact ⟨k + 1, by omega, by go_num, o, HK.out, HS3.out, by rw [HCO.out]; exact HF2.out, HL2.out⟩
     case measure => simp [intOf]; omega
   ·have HS2 := HR.out hor
    have HS3 : Hid (∀ j, j < 512 → bit (put o k) j = (decide (j < k + 1) && (bit a j && bit b j))) := HS2
    clear HS2
    have hl2 := row_cells HF2.out.2.2.2 hzo
    obtain ⟨rfl, rfl⟩ : xa = true ∧ xb = true := by simpa using hor
    clear hor
    all_goals
     go_wp2_with fail
     refine (HP.out _).mono ?_
     rintro e w3 ⟨rfl, hb3⟩
     have HF3 : Hid (Four w.heap.size w3 ca cb (sc nought) co) := HF2.out.later hb3
     have HL3 : Hid (Below w.heap.size w w3) := below_then HL2.out hb3
     clear hb3 hl2
     have hst := store_row (P := Tryz.prog) HF3.out.2.2.2 hzo hzp h1p
     go_wp2
     go_roundw
     case rel => exact ⟨k + 1, by omega, by go_num, put o k, HQ.out, HS3.out, by rw [HCP.out]; exact HF3.out.set3 _, below_setRow HL3.out _ (by omega) _⟩
     case measure => simp [intOf]; omega
  ·have e : k = 512 := by omega
   subst e
   have HE : Hid (o = meet a b) := sig_ext HK.out (ok_meet HO.out.1 HO.out.2) fun j hj => by
    rw [HT.out j hj, bit_meet HO.out.1 HO.out.2]
    simp [hj]
   have h1o := sc_one o
   rw [HE.out] at HF hzo h1o
   generalize hco : sc (meet a b) = co at *
   have HCO : Hid (sc (meet a b) = co) := hco
   clear hco
   have hpo := pack8 co hzo
   have hl3 := row_cells HF.out.2.2.2 hzo
   have hst := store_row (P := Tryz.prog) HF.out.2.2.1 rfl hzo h1o
   go_wp2
   exact ret_sig rfl rfl (setRow_heap _ _ _ _ _ _ HF.out.2.2.1) hzo rfl ⟨by rw [HCO.out], below_setRow HL.out _ (by omega) _⟩
end Go.Proofs.YtgjahjnomfijfaaGreat.Sg
/- What Bits, Empty and Meets tell, in the program and in the document's answer. -/
namespace Go.Proofs.YtgjahjnomfijfaaGreat.Sg
open Go.ChangeShapes Go.WideShapes Go.ChangeAt Go.RowKit
def iv (l : List Nat) : List Value := l.map fun (k : Nat) => Value.int .i64 (k : Int)
theorem iv_app (a b : List Nat) : iv (a ++ b) = iv a ++ iv b := List.map_append
theorem below_grown {w w' : World} (h : Below w.heap.size w w') : w.grownBy w' none := ⟨h.os, h.tape, h.output, h.size, fun k hk _ => h.block k hk⟩
theorem own_later {w w' : World} {base : Nat} {e : TypeId} {size : Nat} {v : Value} {n : Nat} {xs : List Value} (h : w.ownsRow base e size v n xs) (hb : Below w.heap.size w w') : w'.ownsRow base e size v n xs :=
 h.kept (below_grown hb) (by cases hv : v.ownBlock <;> simp)
theorem own_block {w : World} {base : Nat} {e : TypeId} {size : Nat} {v : Value} {n : Nat} {xs : List Value} (h : w.ownsRow base e size v n xs) : ∀ k, v.ownBlock = some k → base ≤ k := fun k hk => (h.lt k hk).1
theorem own_mono {w : World} {base base' : Nat} {e : TypeId} {size : Nat} {v : Value} {n : Nat} {xs : List Value} (h : w.ownsRow base e size v n xs) (hb : base' ≤ base) : w.ownsRow base' e size v n xs := by
 obtain ⟨h1, h2⟩ := h
 refine ⟨h1, ?_⟩
 rcases h2 with h2 | ⟨g, cap, cur, hv, hg, r⟩
 ·exact Or.inl h2
 ·exact Or.inr ⟨g, cap, cur, hv, by omega, r⟩
theorem row_grown {w w' : World} {b base : Nat} {o : Obj} {e : TypeId} {size : Nat} {v : Value} {n : Nat} {xs : List Value} (h : w.heap[b]? = some o) (ho : w.ownsRow base e size v n xs) (hlt : b < base) (hg : w.grownBy w' v.ownBlock) : w'.heap[b]? = some o := by
 rw [hg.block b (Array.getElem?_eq_some_iff.1 h).1 (fun e' => by have := own_block ho b e'.symm; omega), h]
theorem info_int : (Tryz.prog.info? 3).map (fun i => (i.zero, i.size, i.bytes)) = some (some (.int .i64 0), 1, 8) := by kernel_rfl
def bitsUp (s : List Nat) (k : Nat) : List Nat := (List.range k).filter (bit s)
theorem bitsUp_yes (s : List Nat) (k : Nat) (h : bit s k = true) : bitsUp s (k + 1) = bitsUp s k ++ [k] := by
 unfold bitsUp; rw [List.range_succ, List.filter_append]; simp [h]
theorem bitsUp_no (s : List Nat) (k : Nat) (h : bit s k = false) : bitsUp s (k + 1) = bitsUp s k := by
 unfold bitsUp; rw [List.range_succ, List.filter_append]; simp [h]
theorem bitsUp_len (s : List Nat) (k : Nat) : (bitsUp s k).length ≤ k := by
 unfold bitsUp; exact Nat.le_trans (List.length_filter_le _ _) (by simp)
set_option maxRecDepth 10000 in
theorem rbits_any (s : List Nat) (hs : Ok s) (w : World) :
  Calls Tryz.prog 56 #[sv s] w fun e w' => ∃ v, e = .returned v ∧ w'.ownsRow w.heap.size 3 1 v (bitsOf s).length (iv (bitsOf s)) ∧ Below w.heap.size w w' := by
 have HA : Hid (∀ k : Nat, k < 512 → ∀ w, Calls Tryz.prog 54 #[.agg (sc s), .int .i64 (k : Int)] w fun e w' => e = .returned (.bool (bit s k)) ∧ Below w.heap.size w w') := fun k hk w => (rbit_any s hs k hk w).mono fun e w' ⟨h, h'⟩ => ⟨h, by rw [h']; exact below_a1 _ _⟩
 obtain ⟨i0, hi, hz0, hz1, hz2⟩ := info_parts info_int
 have hz := sc_size s
 rw [hs.1] at hz
 clear hs
 unfold sv
 generalize sc s = cs at *
 have hpk := pack8 cs hz
 go_enter Tryz.func56, Tryz.ntmps56
 go_wp2
 go_loopw [3, 4] (fun v i wr => ∃ k : Nat, k ≤ 512 ∧ i = .int .i64 k ∧ wr.heap[w.heap.size]? = some (.cells cs 51 (0, 0)) ∧ wr.ownsRow (w.heap.size + 1) 3 1 v (bitsUp s k).length (iv (bitsUp s k)) ∧ Below w.heap.size w wr) (fun _ i _ => 512 - (intOf i).toNat)
 case atStart => exact ⟨0, by omega, rfl, heap_alloc_new _ _, World.ownsRow_nil _ _ _ _, below_a1 _ _⟩
 case round =>
  obtain ⟨k, hk, rfl, hr, hown, hbel⟩ := hrel
  have HR : Hid (wr.heap[w.heap.size]? = some (.cells cs 51 (0, 0))) := hr
  have HW : Hid (wr.ownsRow (w.heap.size + 1) 3 1 u3 (bitsUp s k).length (iv (bitsUp s k))) := hown
  have HL : Hid (Below w.heap.size w wr) := hbel
  clear hr hown hbel
  by_cases hlt : k < 512
  ·have HA' : Hid (∀ w, Calls Tryz.prog 54 #[.agg cs, .int .i64 (k : Int)] w fun e w' => e = .returned (.bool (bit s k)) ∧ Below w.heap.size w w') := HA.out k hlt
   have hl0 := row_cells HR.out hz
   go_wp2_with fail
   refine (HA'.out _).mono ?_
   rintro e w1 ⟨rfl, hb1⟩
   have HR1 : Hid (w1.heap[w.heap.size]? = some (.cells cs 51 (0, 0))) := row_later HR.out hb1
   have HW1 : Hid (w1.ownsRow (w.heap.size + 1) 3 1 u3 (bitsUp s k).length (iv (bitsUp s k))) := own_later HW.out hb1
   have HL1 : Hid (Below w.heap.size w w1) := below_then HL.out hb1
   have hsz1 : w.heap.size + 1 ≤ w1.heap.size := by have := (Array.getElem?_eq_some_iff.1 HR1.out).1; omega
   clear hb1 hl0
   cases hbit : bit s k
   ·have HN : Hid (bitsUp s (k + 1) = bitsUp s k) := bitsUp_no s k hbit
    go_wp2
    go_roundw
    case rel => exact ⟨k + 1, by omega, by go_num, HR1.out, by rw [HN.out]; exact HW1.out, HL1.out⟩
    case measure => simp [intOf]; omega
   ·have HN : Hid (bitsUp s (k + 1) = bitsUp s k ++ [k]) := bitsUp_yes s k hbit
    have hlen := bitsUp_len s k
    go_wp2_with (at_builtin; refine wpList_append_own _ rfl _ _ 133 rfl (w.heap.size + 1) 3 i0 (.int .i64 0) 1 8 Tryz.underlying133 hi hz0 hz1 hz2 rfl (by decide) _ _ _ rfl (HW1.out.alloc _) ⟨w1.heap.size, 0, none⟩ 1 1 [.int .i64 (k : Int)] rfl rfl ?c1 ?c2 ?c3 ?c4 ?c5 ?_)
    case c1 => exact cell_one_new _ _ _
    case c2 => intro u hu; simp at hu; subst hu; rfl
    case c3 => unfold maxLen; omega
    case c4 => omega
    case c5 => simp; omega
    intro v' w2 hown' hgrow _
    have HW2 : Hid (w2.ownsRow (w.heap.size + 1) 3 1 v' (bitsUp s (k + 1)).length (iv (bitsUp s (k + 1)))) := by
     rw [HN.out, List.length_append, iv_app]; exact hown'
    have HR2 : Hid (w2.heap[w.heap.size]? = some (.cells cs 51 (0, 0))) := row_grown (row_later HR1.out (below_a1 _ _)) (HW1.out.alloc _) (by omega) hgrow
    have HL2 : Hid (Below w.heap.size w w2) := (below_alloc HL1.out _).grown hgrow (by simp; omega) (fun b hb => by have := own_block HW1.out b hb; omega)
    clear hown' hgrow
    go_wp2
    go_roundw
    case rel => exact ⟨k + 1, by omega, by go_num, HR2.out, HW2.out, HL2.out⟩
    case measure => simp [intOf]; omega
  ·have e : k = 512 := by omega
   subst e
   go_wp2
   go_ret
   exact ⟨_, rfl, own_mono HW.out (by omega), HL.out⟩
theorem own_slice {w : World} {base : Nat} {e : TypeId} {size : Nat} {v : Value} {n : Nat} {xs : List Value} (h : w.ownsRow base e size v n xs) : ∃ a cap, v = .slice a n cap := by
 rcases h.2 with ⟨rfl, rfl⟩ | ⟨g, cap, cur, rfl, _⟩
 ·exact ⟨_, _, rfl⟩
 ·exact ⟨_, _, rfl⟩
theorem rempty_any (s : List Nat) (hs : Ok s) (w : World) :
  Calls Tryz.prog 40 #[sv s] w fun e w' => e = .returned (.bool (s == nought)) ∧ Below w.heap.size w w' := by
 have HA : Hid (∀ w, Calls Tryz.prog 56 #[.agg (sc s)] w fun e w' => ∃ v, e = .returned v ∧ w'.ownsRow w.heap.size 3 1 v (bitsOf s).length (iv (bitsOf s)) ∧ Below w.heap.size w w') := rbits_any s hs
 have HE : Hid (((bitsOf s).length == 0) = (s == nought)) := bitsOf_empty hs
 have hz := sc_size s
 rw [hs.1] at hz
 clear hs
 unfold sv
 generalize sc s = cs at *
 generalize (s == nought) = r at *
 have hpk := pack8 cs hz
 go_enter Tryz.func40, Tryz.ntmps40
 go_wp2_with fail
 refine (HA.out _).mono ?_
 rintro e w1 ⟨v, rfl, hown, hb1⟩
 obtain ⟨a, cap, rfl⟩ := own_slice hown
 have HL1 : Hid (Below w.heap.size w w1) := below_then (below_a1 _ _) hb1
 clear hb1 hown
 generalize (bitsOf s).length = n at *
 go_wp2
 go_ret
 refine ⟨?_, HL1.out⟩
 rw [← HE.out]
 cases n <;> rfl
theorem rmeets_any (a b : List Nat) (ha : Ok a) (hb : Ok b) (w : World) :
  Calls Tryz.prog 28 #[sv a, sv b] w fun e w' => e = .returned (.bool (!(meet a b == nought))) ∧ Below w.heap.size w w' := by
 have HM : Hid (∀ w, Calls Tryz.prog 39 #[sv a, sv b] w fun e w' => e = .returned (sv (meet a b)) ∧ Below w.heap.size w w') := fun w => rmeet_any a b ha hb w
 have HE : Hid (∀ w, Calls Tryz.prog 40 #[sv (meet a b)] w fun e w' => e = .returned (.bool (meet a b == nought)) ∧ Below w.heap.size w w') := fun w => rempty_any _ (ok_meet ha hb) w
 have hza := sc_size a
 have hzb := sc_size b
 have hzm := sc_size (meet a b)
 have h1m := sc_one (meet a b)
 rw [ha.1] at hza
 rw [hb.1] at hzb
 rw [(ok_meet ha hb).1] at hzm
 unfold sv at *
 generalize (meet a b == nought) = r at *
 generalize sc (meet a b) = cm at *
 generalize sc a = ca at *
 generalize sc b = cb at *
 have hpa := pack8 ca hza
 have hpb := pack8 cb hzb
 have hpm := pack8 cm hzm
 clear ha hb
 have hst := fun (w : World) (old : Array Value) (ho : old.size = 8) => store_1_0 (P := Tryz.prog) w 51 old cm ho hzm h1m
 go_enter Tryz.func28, Tryz.ntmps28
 go_wp2_with fail
 refine (HM.out _).mono ?_
 rintro e w1 ⟨rfl, hb1⟩
 have HB1 : Hid (Below w.heap.size w w1) := below_then (below_a2 _ _ _) hb1
 clear hb1
 go_wp2_with fail
 refine (HE.out _).mono ?_
 rintro e w2 ⟨rfl, hb2⟩
 have HB2 : Hid (Below w.heap.size w w2) := below_then (below_alloc HB1.out _) hb2
 clear hb2
 go_wp2
 go_ret
 exact ⟨rfl, HB2.out⟩
end Go.Proofs.YtgjahjnomfijfaaGreat.Sg
