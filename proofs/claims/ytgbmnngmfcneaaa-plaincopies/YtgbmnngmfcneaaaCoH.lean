/- Shapes of collections: as they are handed back, and when two are alike. -/
import Derived.Test.YtgbmnngmfcneaaaCoN
import Derived.Laws.AppendOwnNone
import Derived.Deep.CutBlock
import Derived.Deep.DeepCutAuto
namespace Go.Proofs.Ytgbmnngmfcneaaa
open Go.ChangeShapes Go.WideShapes Go.ChangeAt Go.RowKit
attribute [local go_sem ↓] Go.wp_at_zero Go.wp_at_succ

set_option maxRecDepth 100000 in
/-- append of a whole list that was handed in onto a list that the call owns. -/
theorem wpList_append_nl (w : World) {ops : Array Oper} {rest : List Oper} {o : Oper} {a : Act} {Q : Exit → Act → World → Prop} (hgd : o.guard = none) (s x : Operand)
    (ho : o.op = .call { callee := .builtin .append, args := #[s, x], argTypes := #[36, 36] }) (base : Nat) (v : Value) (n : Nat) (xs : List Value) (hs : a.eval s = v) (hown : w.ownsRow base 2 1 v n xs)
    (u : Value) (l : List Int) (hx : a.eval x = u) (hl : Nl w u l) (h63 : n + l.length ≤ maxLen) (hbytes : (n + l.length) * 8 ≤ 140737488355328) (hbase : base ≤ w.heap.size)
    (h : ∀ v' w', w'.ownsRow base 2 1 v' (n + l.length) (xs ++ numC l) → w.grownBy w' v.ownBlock → wpList Try.prog ops Q rest (a.put o.dst v') w') : wpList Try.prog ops Q (o :: rest) a w := by
  obtain ⟨i0, hi, hz0, hz1, hz2⟩ := info_parts info_i64
  obtain ⟨ad, cap, rfl, hbig, hc1, ⟨hc2, hnil⟩, _, hc⟩ := hl
  cases ad with
  | none =>
    have hl0 : l.length = 0 := by
      rcases hc with h0 | ⟨x, hx', _⟩
      · exact h0
      · cases hx'
    obtain rfl : l = [] := List.eq_nil_of_length_eq_zero hl0
    obtain rfl : cap = 0 := hnil rfl
    refine wpList_append_own_none hgd s x 36 ho base 2 i0 1 Try.underlying36 hi v n xs hs hown hx ?_
    exact h v w (by simpa [numC] using hown) ⟨rfl, rfl, rfl, Nat.le_refl _, fun _ _ _ => rfl⟩
  | some ad =>
    refine wpList_append_own w hgd s x 36 ho base 2 i0 (.int .i64 0) 1 8 Try.underlying36 hi hz0 hz1 hz2 rfl (by decide) v n xs hs hown ad l.length cap (numC l) hx (by rw [numC_len]; omega) (fun j u' hu => ?_) (fun u' hu => ?_) h63 hbytes hbase fun v' w' h1 h2 _ => h v' w' h1 h2
    · have hj : j < l.length := by
        have := (List.getElem?_eq_some_iff.1 hu).1
        rwa [numC_len] at this
      rw [numC_get l j hj] at hu
      obtain ⟨x, hx', _, hcell⟩ := hc.resolve_left (by omega)
      injection hx' with hx'
      subst hx'
      injection hu with hu
      rw [← hu]
      exact hcell j hj
    · simp only [numC, List.mem_map] at hu
      obtain ⟨z, _, rfl⟩ := hu
      rfl
def shC (k : Int) (v p : Value) : Array Value := #[.int .i64 k, v, p]
theorem shC_size (k : Int) (v p : Value) : (shC k v p).size = 3 := rfl
theorem one_own {w : World} {base n : Nat} {v : Value} {xs : List Value} (h : w.ownsRow base 2 1 v n xs) : v.oneCell' = true := by
  obtain ⟨a, c, rfl⟩ := own_slice h
  rfl
theorem shC_one (k : Int) {w : World} {base n : Nat} (v : Value) {xs : List Value} (h : w.ownsRow base 2 1 v n xs) : (shC k v (.slice none 0 0)).all (·.oneCell') = true := by
  have := one_own h
  simp [shC, this]
  exact ⟨rfl, rfl⟩
theorem store_sh {P : Program} {w : World} {b : Nat} {t : TypeId} {old cs : Array Value} (h : w.heap[b]? = some (.cells old t (0, 0))) (hz : old.size = 3) (hc : cs.size = 3) (h1 : cs.all (·.oneCell') = true) : (storeCells ⟨b, 0, none⟩ cs.toList 0).run P w = .ok () (w.setRow b cs) := by
  have := run_storeCells_from (P := P) b t cs.toList 0 old w h (by simp [hz, hc]) (fun v hv => (Array.all_eq_true_iff_forall_mem.1 h1) v (by simpa using hv))
  simpa using this
theorem new_sh {P : Program} {w : World} {t : TypeId} {z cs : Array Value} (hz : z.size = 3) (hc : cs.size = 3) (h1 : cs.all (·.oneCell') = true) : ∃ w', (storeCells ⟨w.heap.size, 0, none⟩ cs.toList 0).run P (w.alloc (.cells z t)) = .ok () w' ∧ w'.heap[w.heap.size]? = some (.cells cs t (0, 0)) ∧ Below w.heap.size w w' ∧ w'.heap.size = w.heap.size + 1 :=
  ⟨_, store_sh (heap_alloc_new w _) hz hc h1, setRow_heap _ _ _ _ _ _ (heap_alloc_new w _), below_row (below_a1 _ _) _ (Nat.le_refl _) _, by rw [setRow_size]; simp⟩
/-- A shape that a function hands back beside an error. -/
theorem ret_sh {fn : Func} {p q : Tmp} {R : Ending → World → Prop} {a : Act} {w : World} {g : Nat} {cs : Array Value} (h : fn.results = #[.cell p 50, .tmp q]) (hp : a.tmps.getD p undef = .pointer (some ⟨g, 0, none⟩))
    (hg : w.heap[g]? = some (.cells cs 50 (0, 0))) (hz : cs.size = 3) (hd : a.defers = []) (hR : R (.returned (.tuple #[.agg cs, a.tmps.getD q undef])) w) : bodyPost Try.prog fn R .ret a w := by
  refine bodyPost_ret (v := .tuple #[.agg cs, a.tmps.getD q undef]) ?_ hd hR
  have hp' : a.tmps[p]?.getD undef = .pointer (some ⟨g, 0, none⟩) := by simpa using hp
  have hl := run_loadVar_row (P := Try.prog) w g 50 50 cs (0, 0) _ hg Try.underlying50 rfl (by rw [hz]; kernel_rfl)
  simp [results, h, hp', asAddr, hl]
set_option maxRecDepth 100000 in
/-- Two shapes without pairs, of one kind, with the same values. -/
theorem sshape_any {w : World} {k : Int} {va vb : Value} {l : List Int} (ha : Nl w va l) (hb : Nl w vb l) : Calls Try.prog 55 #[.agg (shC k va (.slice none 0 0)), .agg (shC k vb (.slice none 0 0))] w fun e w' => e = .returned (.bool true) ∧ Below w.heap.size w w' := by
  have HS : Hid (∀ w' : World, Below w.heap.size w w' → Calls Try.prog 16 #[va, vb] w' fun e w'' => e = .returned (.bool true) ∧ Below w'.heap.size w' w'') := fun w' h => by have := same_any (ha.later h (Nat.le_refl _)) (hb.later h (Nat.le_refl _)); simpa using this
  unfold shC
  clear ha hb
  go_enter Try.func55, Try.ntmps55
  go_wp2_with fail
  refine (HS.out _ (below_then (below_a1 _ _) (below_a1 _ _))).mono ?_
  rintro e w1 ⟨rfl, hb⟩
  have hra := row_next1 hb
  have hrb := row_next2 hb
  have a0 : w1.cell? ⟨w.heap.size, 0, none⟩ = some (.int .i64 k) := by rw [cell_at hra]; rfl
  have a2 : w1.cell? ⟨w.heap.size, 2, none⟩ = some (.slice none 0 0) := by rw [cell_at hra]; rfl
  have b0 : w1.cell? ⟨w.heap.size + 1, 0, none⟩ = some (.int .i64 k) := by rw [cell_at hrb]; rfl
  have b2 : w1.cell? ⟨w.heap.size + 1, 2, none⟩ = some (.slice none 0 0) := by rw [cell_at hrb]; rfl
  have HB : Hid (Below w.heap.size w w1) := below_next2 hb
  clear hb hra hrb HS
  go_wp2_with fail
  go_loopw [6] (fun iv wr => iv = .int .i64 0 ∧ wr = w1) (fun iv _ => 1 - (intOf iv).toNat)
  case atStart => exact ⟨rfl, rfl⟩
  case round =>
    obtain ⟨rfl, rfl⟩ := hrel
    go_wp2_with fail
    go_ret
    exact ⟨rfl, HB.out⟩
end Go.Proofs.Ytgbmnngmfcneaaa
