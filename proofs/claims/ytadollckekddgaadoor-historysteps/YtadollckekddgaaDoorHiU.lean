/- A row of transactions from its end: what the library's range gives whom it is asked by. -/
import Derived.Test.YtadollckekddgaaDoorHiP
import Derived.RangeFuncNested
import Derived.RangeFuncBound
import Derived.RangeFuncCalls
import Derived.RangeFuncLeaves
import Derived.Shelf.Abstract
import Derived.Shelf.RegionOpen
import Derived.OwnWalkIn
import Derived.TacticsInMore
import Derived.LoopNIn
import Derived.LoopIn
namespace Go.Proofs.YtadollckekddgaaDoor.Hi
open Go.ChangeShapes Go.WideShapes Go.ChangeAt Go.RowKit Go.Shelf
attribute [local go_sem] Oper.semAt_some
set_option linter.unusedVariables false

/-- What lies below n₀ lies as it lay, but for one block. -/
structure Save (n₀ X : Nat) (W W' : World) : Prop where
  os : W'.os = W.os
  tape : W'.tape = W.tape
  output : W'.output = W.output
  size : W.heap.size ≤ W'.heap.size
  block : ∀ b, b < n₀ → b ≠ X → W'.heap[b]? = W.heap[b]?
theorem Save.refl (n₀ X : Nat) (W : World) : Save n₀ X W W := ⟨rfl, rfl, rfl, Nat.le_refl _, fun _ _ _ => rfl⟩
theorem Save.trans {n₀ X : Nat} {A B C : World} (h : Save n₀ X A B) (k : Save n₀ X B C) : Save n₀ X A C :=
  ⟨k.os.trans h.os, k.tape.trans h.tape, k.output.trans h.output, Nat.le_trans h.size k.size, fun b hb hx => (k.block b hb hx).trans (h.block b hb hx)⟩
theorem Save.of_below {n₀ X : Nat} {W W' : World} (h : Below W.heap.size W W') (hn : n₀ ≤ W.heap.size) : Save n₀ X W W' := ⟨h.os, h.tape, h.output, h.size, fun b hb _ => h.block b (by omega)⟩
theorem Save.putObj {n₀ X : Nat} (W : World) (l : Nat) (o' : Obj) (hl : n₀ ≤ l) : Save n₀ X W (W.putObj l o') :=
  ⟨rfl, rfl, rfl, by simp, fun b hb _ => World.putObj_heap_other (by omega)⟩
theorem Save.setCell {n₀ X : Nat} (W : World) (i : Nat) (v : Value) : Save n₀ X W (W.setCell ⟨X, i, none⟩ v) :=
  ⟨rfl, rfl, rfl, by simp [World.setCell], fun b _ hx => heap_set_other _ _ (fun e => hx e.symm)⟩
theorem Save.alloc {n₀ X : Nat} (W : World) (o : Obj) (h : n₀ ≤ W.heap.size) : Save n₀ X W (W.alloc o) := Save.of_below (below_a1 _ _) h
theorem Save.cell {n₀ X : Nat} {W W' : World} (h : Save n₀ X W W') {b i : Nat} (hb : b < n₀) (hx : b ≠ X) : W'.cell? ⟨b, i, none⟩ = W.cell? ⟨b, i, none⟩ := by
  unfold World.cell?
  rw [h.block b hb hx]
theorem grown_of_below {w w' : World} (h : Below w.heap.size w w') : w.grownBy w' none := ⟨h.os, h.tape, h.output, h.size, fun k hk _ => h.block k hk⟩
/-- The places from the last on. -/
def downs (m : Nat) : List Nat := (List.range m).map fun k => m - 1 - k
theorem downs_len (m : Nat) : (downs m).length = m := by simp [downs]
theorem downs_take (m k : Nat) (h : k < m) : (downs m).take (k + 1) = (downs m).take k ++ [m - 1 - k] := by
  rw [List.take_add_one]; simp [downs, h]

/-- The same, as places of a row of so many. -/
def downsF (m : Nat) : List (Fin m) := List.ofFn fun k : Fin m => ⟨m - 1 - k.val, by omega⟩
theorem downsF_len (m : Nat) : (downsF m).length = m := by simp [downsF]
theorem downsF_take (m k : Nat) (h : k < m) : (downsF m).take (k + 1) = (downsF m).take k ++ [⟨m - 1 - k, by omega⟩] := by
  rw [List.take_add_one]; simp [downsF, h]
theorem downsF_val (m : Nat) : (downsF m).map (·.val) = downs m := by
  apply List.ext_getElem
  · simp [downsF, downs]
  · intro i h1 h2
    simp [downsF, downs]
theorem back_any (sa : Option Addr) (m cap : Nat) (w : World) : Calls Tryd.prog 29 #[.slice sa m cap] w fun e w' => e = .returned (.func (.func 47) #[] #[.pointer (some ⟨w.heap.size, 0, none⟩)]) ∧ w' = w.alloc (.cells #[.slice sa m cap] 52) := by
  go_enter Tryd.func29, Tryd.ntmps29
  go_wp2
  go_ret
  exact ⟨rfl, rfl⟩
set_option maxRecDepth 100000 in
set_option maxHeartbeats 2000000 in
theorem back1_in (n : Nat) (hn : 2 ≤ n) (l Bn n₀ X : Nat) {g m cap : Nat} {sa : Option Addr} {bs : Nat → Nat} (hm : m ≤ 925925926000) (hcap : m ≤ cap) (hsa : 0 < m → sa = some ⟨g, 0, none⟩) (hBn : Bn < n₀) (hBX : Bn ≠ X) (hg : 0 < m → g < n₀ ∧ g ≠ X) (J Jx : List (Fin m) → World → Prop) (W : World) (hn₀ : n₀ ≤ W.heap.size)
    (hA : AbidesFrom W.heap.size J)
    (hY : ∀ (pre : List (Fin m)) (x : Fin m) (W1 : World), J pre W1 → pre.length < m → YieldAt Fence.wide (n - 1) Tryd.prog l #[.int .i64 (x.val : Int), .pointer (some ⟨bs x.val, 0, none⟩)] W1 fun e W' =>
      (e = .returned (.bool true) ∧ J (pre ++ [x]) W' ∧ Save n₀ X W1 W') ∨ (e = .returned (.bool false) ∧ Jx (pre ++ [x]) W'))
    (hBc : W.cell? ⟨Bn, 0, none⟩ = some (.slice sa m cap)) (hrow : ∀ i, i < m → W.cell? ⟨g, i, none⟩ = some (.pointer (some ⟨bs i, 0, none⟩))) (h0 : J [] W) :
    CallsIn Fence.wide n Tryd.prog 47 #[.func (.yield l) #[] #[], .pointer (some ⟨Bn, 0, none⟩)] W fun e W' => (∃ v, e = .returned v) ∧
      ((∃ ys, ys = downsF m ∧ J ys W') ∨ (∃ pre, pre <+: downsF m ∧ Jx pre W')) := by
  have HBC : Hid (∀ w', Save n₀ X W w' → w'.cell? ⟨Bn, 0, none⟩ = some (.slice sa m cap)) := fun w' hs => by rw [hs.cell hBn hBX]; exact hBc
  have HRW : Hid (∀ w' i, Save n₀ X W w' → i < m → w'.cell? ⟨g, i, none⟩ = some (.pointer (some ⟨bs i, 0, none⟩))) := fun w' i hs hi => by
    obtain ⟨h1, h2⟩ := hg (by omega)
    rw [hs.cell h1 h2]; exact hrow i hi
  have HE : Hid (∀ k, (h : k < m) → (downsF m).take (k + 1) = (downsF m).take k ++ [⟨m - 1 - k, by omega⟩]) := fun k h => downsF_take m k h
  have HEL : Hid ((downsF m).length = m) := downsF_len m
  have HM : Hid (m ≤ 925925926000) := hm
  clear hm hrow hg
  generalize downsF m = es at *
  refine callsIn_of_wp Tryd.func47 rfl trivial ?_ rfl
  simp only [Tryd.ntmps47, List.size_toArray, List.length_cons, List.length_nil, Nat.reduceAdd, Nat.reduceSub, Array.replicate_succ, Array.replicate_zero, List.push_toArray, List.append_toArray, List.nil_append, List.cons_append]
  have h1n : 1 ≤ n := by omega
  have hc0 := hBc
  have hwr : Hid (wrap64 ((m : Int) - 1) = (m : Int) - 1) := by
    have := HM.out
    unfold Hid wrap64
    omega
  gi_wp2
  gi_loopw [3] (fun i wr => ∃ k : Nat, k ≤ m ∧ i = .int .i64 ((m : Int) - 1 - (k : Int)) ∧ Hid (Save n₀ X W wr) ∧ Hid (J (es.take k) wr)) (fun i _ => (intOf i + 1).toNat)
  case atStart => exact ⟨0, by omega, by first | (rw [hwr.out]; congr 1; omega) | (congr 1; omega), Save.refl _ _ _, by show J _ _; simpa using h0⟩
  case round =>
    obtain ⟨k, hk, rfl, HS, HK⟩ := hrel
    by_cases hlt : k < m
    · obtain ⟨x, hx⟩ : ∃ x : Nat, (m : Int) - 1 - (k : Int) = (x : Int) := ⟨m - 1 - k, by omega⟩
      have hxm : x = m - 1 - k := by omega
      have hxl : x < m := by omega
      obtain rfl := hsa (by omega)
      have hcb := HBC.out wr HS.out
      have hrx := HRW.out wr x HS.out hxl
      have HEK : Hid (es.take (k + 1) = es.take k ++ [⟨x, hxl⟩]) := by rw [Hid, HE.out k hlt]; congr 3; exact hxm.symm
      have HYW : Hid (YieldAt Fence.wide (n - 1) Tryd.prog l #[.int .i64 (x : Int), .pointer (some ⟨bs x, 0, none⟩)] wr fun e W' => (e = .returned (.bool true) ∧ J (es.take k ++ [⟨x, hxl⟩]) W' ∧ Save n₀ X wr W') ∨ (e = .returned (.bool false) ∧ Jx (es.take k ++ [⟨x, hxl⟩]) W')) := hY _ ⟨x, hxl⟩ _ HK.out (by have := HEL.out; simp; omega)
      have hd : decide ((0 : Int) ≤ (x : Int)) = true := by simp
      have hw2 : Hid (wrap64 ((x : Int) - 1) = (m : Int) - 1 - ((k + 1 : Nat) : Int)) := by
        have := HM.out
        unfold Hid wrap64
        omega
      have hxi : (x : Int) < (m : Int) := by omega
      have HMX : Hid (((m : Int) - 1 - ((k + 1 : Nat) : Int) + 1).toNat < ((x : Int) + 1).toNat) := by rw [Hid]; omega
      rw [hx]
      clear hx hxm hY
      generalize bs x = bx at *
      obtain ⟨fn, tmps, assign, body, hy, hR⟩ := HYW.out
      gi_wp2
      clear hy hcb hrx
      refine hR.mono ?_
      rintro e W3 (⟨rfl, hJ3, hk3⟩ | ⟨rfl, hJx3⟩)
      · have HJ3 : Hid (J (es.take (k + 1)) W3) := by rw [Hid, HEK.out]; exact hJ3
        have HS3 : Hid (Save n₀ X W W3) := HS.out.trans hk3
        clear hJ3 hk3 hR
        gi_wp2
        go_roundw
        case rel => exact ⟨k + 1, by omega, by rw [hw2.out], HS3, HJ3⟩
        case measure => rw [hw2.out]; exact HMX.out
      · have HJ3 : Hid (Jx (es.take (k + 1)) W3) := by rw [Hid, HEK.out]; exact hJx3
        clear hJx3 hR
        gi_wp2
        refine bodyPost_ret (results_none rfl _ _ _) rfl ?_
        exact ⟨⟨_, rfl⟩, .inr ⟨_, List.take_prefix _ _, HJ3.out⟩⟩
    · have e : k = m := by omega
      subst e
      have hj : J es wr := by have := HK.out; rwa [List.take_of_length_le (by rw [HEL.out]; exact Nat.le_refl _)] at this
      have HJE : Hid (J es wr) := hj
      have hd : decide ((0 : Int) ≤ (k : Int) - 1 - (k : Int)) = false := by simp; omega
      clear hj
      gi_wp2
      go_end0
      exact ⟨⟨_, rfl⟩, .inl ⟨_, rfl, HJE.out⟩⟩
/-- What a range over them asks. -/
theorem back_stops (n : Nat) (hn : 2 ≤ n) (Bn n₀ X : Nat) {g m cap : Nat} {sa : Option Addr} {bs : Nat → Nat} (hm : m ≤ 925925926000) (hcap : m ≤ cap) (hsa : 0 < m → sa = some ⟨g, 0, none⟩) (hBn : Bn < n₀) (hBX : Bn ≠ X) (hg : 0 < m → g < n₀ ∧ g ≠ X) (w : World) (hn₀ : n₀ ≤ w.heap.size)
    (hBc : w.cell? ⟨Bn, 0, none⟩ = some (.slice sa m cap)) (hrow : ∀ i, i < m → w.cell? ⟨g, i, none⟩ = some (.pointer (some ⟨bs i, 0, none⟩))) :
    SeqStopsK Fence.wide n Tryd.prog 47 #[.pointer (some ⟨Bn, 0, none⟩)] (fun x : Fin m => #[Value.int .i64 (x.val : Int), Value.pointer (some ⟨bs x.val, 0, none⟩)]) (Save n₀ X) (fun ys => ys = downsF m) (fun pre => pre <+: downsF m) m w := fun l J Jx W hW hJ _ hY h0 =>
  back1_in n hn l Bn n₀ X hm hcap hsa hBn hBX hg J Jx W (Nat.le_trans hn₀ hW.size) hJ hY ((hW.cell (p := ⟨Bn, 0, none⟩) (Nat.lt_of_lt_of_le hBn hn₀)).trans hBc) (fun i hi => ((hW.cell (p := ⟨g, i, none⟩) (Nat.lt_of_lt_of_le (hg (by omega)).1 hn₀)).trans (hrow i hi))) h0
end Go.Proofs.YtadollckekddgaaDoor.Hi
