/- What the document's answer tells of unions and meets. -/
import Derived.Test.YtbmmicfdnfpcaaaSigR
import Derived.Test.YtbmmicfdnfpcaaaSigE
namespace Go.Proofs.Ytbmmicfdnfpcaaa.Sg
open Go.ChangeShapes Go.WideShapes Go.ChangeAt Go.RowKit

/-- Four rows, one behind the other, from a place on. -/
def Four (b : Nat) (w : World) (c0 c1 c2 c3 : Array Value) : Prop :=
  w.heap[b]? = some (.cells c0 57 (0, 0)) ∧ w.heap[b + 1]? = some (.cells c1 57 (0, 0)) ∧ w.heap[b + 1 + 1]? = some (.cells c2 57 (0, 0)) ∧ w.heap[b + 1 + 1 + 1]? = some (.cells c3 57 (0, 0))
theorem Four.later {b : Nat} {w w' : World} {c0 c1 c2 c3 : Array Value} (h : Four b w c0 c1 c2 c3) (hb : Below w.heap.size w w') : Four b w' c0 c1 c2 c3 :=
  ⟨row_later h.1 hb, row_later h.2.1 hb, row_later h.2.2.1 hb, row_later h.2.2.2 hb⟩
theorem Four.set3 {b : Nat} {w : World} {c0 c1 c2 c3 : Array Value} (h : Four b w c0 c1 c2 c3) (c : Array Value) : Four b (w.setRow (b + 1 + 1 + 1) c) c0 c1 c2 c :=
  ⟨by rw [setRow_other _ _ _ _ (by omega)]; exact h.1, by rw [setRow_other _ _ _ _ (by omega)]; exact h.2.1, by rw [setRow_other _ _ _ _ (by omega)]; exact h.2.2.1, setRow_heap _ _ _ _ _ _ h.2.2.2⟩
theorem Four.new (w : World) (c0 c1 c2 c3 : Array Value) : Four w.heap.size ((((w.alloc (.cells c0 57)).alloc (.cells c1 57)).alloc (.cells c2 57)).alloc (.cells c3 57)) c0 c1 c2 c3 := by
  refine ⟨?_, ?_, ?_, ?_⟩
  · rw [Below.heap_alloc _ _ _ (by simp; omega), Below.heap_alloc _ _ _ (by simp; omega), Below.heap_alloc _ _ _ (by simp)]; exact heap_alloc_new _ _
  · rw [Below.heap_alloc _ _ _ (by simp)]; exact row_3_1 _ _ _ _
  · rw [Below.heap_alloc _ _ _ (by simp)]; exact row_3_2 _ _ _ _
  · have := row_3_2 (w.alloc (.cells c0 57)) (.cells c1 57) (.cells c2 57) (.cells c3 57); simpa using this

set_option maxRecDepth 10000 in
theorem rmeet_any (a b : List Nat) (ha : Ok a) (hb : Ok b) (w : World) :
    Calls Try.prog 42 #[sv a, sv b] w fun e w' => e = .returned (sv (meet a b)) ∧ Below w.heap.size w w' := by
  have HA : Hid (∀ k : Nat, k < 512 → ∀ w, Calls Try.prog 58 #[.agg (sc a), .int .i64 (k : Int)] w fun e w' => e = .returned (.bool (bit a k)) ∧ Below w.heap.size w w') := fun k hk w => (rbit_any a ha k hk w).mono fun e w' ⟨h, h'⟩ => ⟨h, by rw [h']; exact below_a1 _ _⟩
  have HB : Hid (∀ k : Nat, k < 512 → ∀ w, Calls Try.prog 58 #[.agg (sc b), .int .i64 (k : Int)] w fun e w' => e = .returned (.bool (bit b k)) ∧ Below w.heap.size w w') := fun k hk w => (rbit_any b hb k hk w).mono fun e w' ⟨h, h'⟩ => ⟨h, by rw [h']; exact below_a1 _ _⟩
  have HO : Hid (Ok a ∧ Ok b) := ⟨ha, hb⟩
  have hza := sc_size a
  have hzb := sc_size b
  rw [ha.1] at hza
  rw [hb.1] at hzb
  clear ha hb
  unfold sv
  generalize sc a = ca at *
  generalize sc b = cb at *
  go_enter Try.func42, Try.ntmps42
  go_wp2
  go_loopw [6] (fun i wr => ∃ k : Nat, k ≤ 512 ∧ i = .int .i64 k ∧ ∃ o, Ok o ∧ (∀ j, j < 512 → bit o j = (decide (j < k) && (bit a j && bit b j))) ∧ Four w.heap.size wr ca cb (sc nought) (sc o) ∧ Below w.heap.size w wr) (fun i _ => 512 - (intOf i).toNat)
  case atStart => exact ⟨0, by omega, rfl, nought, ok_nought, fun j _ => by simp [bit_nought], Four.new _ _ _ _ _, below_a4 _ _ _ _ _⟩
  case round =>
    obtain ⟨k, hk, rfl, o, ho, hbits, hf, hbel⟩ := hrel
    have HF : Hid (Four w.heap.size wr ca cb (sc nought) (sc o)) := hf
    have HL : Hid (Below w.heap.size w wr) := hbel
    have HT : Hid (∀ j, j < 512 → bit o j = (decide (j < k) && (bit a j && bit b j))) := hbits
    have HK : Hid (Ok o) := ho
    have hzo := sc_size o
    rw [ho.1] at hzo
    clear hf hbel hbits ho
    by_cases hlt : k < 512
    · have HP : Hid (∀ w, Calls Try.prog 50 #[.agg (sc o), .int .i64 (k : Int)] w fun e w' => e = .returned (.agg (sc (put o k))) ∧ Below w.heap.size w w') := fun w => rput_any o HK.out k hlt w
      have HA' := HA.out k hlt
      have HB' := HB.out k hlt
      have HR : Hid ((bit a k && bit b k) = true → ∀ j, j < 512 → bit (put o k) j = (decide (j < k + 1) && (bit a j && bit b j))) := by
        intro h j hj
        rw [bit_put HK.out k j hlt, HT.out j hj]
        by_cases e : j = k
        · subst e; simp [h]
        · have : (j < k + 1) ↔ (j < k) := by omega
          simp [e, this]
      have HS : Hid ((bit a k && bit b k) = false → ∀ j, j < 512 → bit o j = (decide (j < k + 1) && (bit a j && bit b j))) := by
        intro h j hj
        rw [HT.out j hj]
        by_cases e : j = k
        · subst e; simp [h]
        · have : (j < k + 1) ↔ (j < k) := by omega
          simp [this]
      have HQ : Hid (Ok (put o k)) := ok_put HK.out k hlt
      have hzp : (sc (put o k)).size = 8 := by rw [sc_size]; exact HQ.out.1
      have h1p := sc_one (put o k)
      generalize bit a k = xa at *
      generalize bit b k = xb at *
      generalize hcp : sc (put o k) = cp at *
      have HCP : Hid (sc (put o k) = cp) := hcp
      clear hcp
      generalize hco : sc o = co at *
      have HCO : Hid (sc o = co) := hco
      clear hco
      have hpa := pack8 ca hza
      have hpb := pack8 cb hzb
      have hpo := pack8 co hzo
      have hl0 := row_cells HF.out.1 hza
      have HA2 : Hid (∀ w, Calls Try.prog 58 #[.agg ca, .int .i64 (k : Int)] w fun e w' => e = .returned (.bool xa) ∧ Below w.heap.size w w') := HA'
      have HB2 : Hid (∀ w, Calls Try.prog 58 #[.agg cb, .int .i64 (k : Int)] w fun e w' => e = .returned (.bool xb) ∧ Below w.heap.size w w') := HB'
      clear HA' HB'
      go_wp2_with fail
      refine (HA2.out _).mono ?_
      rintro e w1 ⟨rfl, hb1⟩
      have HF1 : Hid (Four w.heap.size w1 ca cb (sc nought) co) := HF.out.later hb1
      have HL1 : Hid (Below w.heap.size w w1) := below_then HL.out hb1
      clear hb1 hl0
      have hl1 := row_cells HF1.out.2.1 hzb
      go_wp2_with fail
      refine (HB2.out _).mono ?_
      rintro e w2 ⟨rfl, hb2⟩
      have HF2 : Hid (Four w.heap.size w2 ca cb (sc nought) co) := HF1.out.later hb2
      have HL2 : Hid (Below w.heap.size w w2) := below_then HL1.out hb2
      clear hb2 hl1
      cases hor : (xa && xb)
      · have HS2 := HS.out hor
        have HS3 : Hid (∀ j, j < 512 → bit o j = (decide (j < k + 1) && (bit a j && bit b j))) := HS2
        clear HS2
        have hor' : xa = false ∨ xa = true ∧ xb = false := by revert hor; cases xa <;> cases xb <;> simp
        clear hor
        rcases hor' with rfl | ⟨rfl, rfl⟩
        all_goals
          go_wp2
          go_roundw
          case rel => exact ⟨k + 1, by omega, by go_num, o, HK.out, HS3.out, by rw [HCO.out]; exact HF2.out, HL2.out⟩
          case measure => simp [intOf]; omega
      · have HS2 := HR.out hor
        have HS3 : Hid (∀ j, j < 512 → bit (put o k) j = (decide (j < k + 1) && (bit a j && bit b j))) := HS2
        clear HS2
        have hl2 := row_cells HF2.out.2.2.2 hzo
        obtain ⟨rfl, rfl⟩ : xa = true ∧ xb = true := by simpa using hor
        clear hor
        all_goals
          go_wp2_with fail
          refine (HP.out _).mono ?_
          rintro e w3 ⟨rfl, hb3⟩
          have HF3 : Hid (Four w.heap.size w3 ca cb (sc nought) co) := HF2.out.later hb3
          have HL3 : Hid (Below w.heap.size w w3) := below_then HL2.out hb3
          clear hb3 hl2
          have hst := store_row (P := Try.prog) HF3.out.2.2.2 hzo hzp h1p
          go_wp2
          go_roundw
          case rel => exact ⟨k + 1, by omega, by go_num, put o k, HQ.out, HS3.out, by rw [HCP.out]; exact HF3.out.set3 _, below_setRow HL3.out _ (by omega) _⟩
          case measure => simp [intOf]; omega
    · have e : k = 512 := by omega
      subst e
      have HE : Hid (o = meet a b) := sig_ext HK.out (ok_meet HO.out.1 HO.out.2) fun j hj => by
        rw [HT.out j hj, bit_meet HO.out.1 HO.out.2]
        simp [hj]
      have h1o := sc_one o
      rw [HE.out] at HF hzo h1o
      generalize hco : sc (meet a b) = co at *
      have HCO : Hid (sc (meet a b) = co) := hco
      clear hco
      have hpo := pack8 co hzo
      have hl3 := row_cells HF.out.2.2.2 hzo
      have hst := store_row (P := Try.prog) HF.out.2.2.1 rfl hzo h1o
      go_wp2
      exact ret_sig rfl rfl (setRow_heap _ _ _ _ _ _ HF.out.2.2.1) hzo rfl ⟨by rw [HCO.out], below_setRow HL.out _ (by omega) _⟩
end Go.Proofs.Ytbmmicfdnfpcaaa.Sg