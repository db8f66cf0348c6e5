/- A job (layer 21): its regions, lists that are copied. -/
import Derived.Test.YtceogkgnapdeiaaPcD
import Derived.Test.YtceogkgnapdeiaaCoM
import Derived.Laws.AppendOwnNone
namespace Go.Proofs.Ytceogkgnapdeiaa.Pg
open Go.ChangeShapes Go.WideShapes Go.ChangeAt Go.RowKit
attribute [local go_sem ↓] Go.wp_at_zero Go.wp_at_succ

/-- A region of a job: its kind, where it begins, its capacity. -/
def rgT (c : Pc.Cf) (i : Nat) : List Value := [.int .i64 (Pc.nthR c.R i).1, .int .i64 (Pc.baseV c (i : Int)).1, .int .i64 (Pc.nthR c.R i).2]
def rgsC (c : Pc.Cf) (n : Nat) : List Value := (List.range n).flatMap (rgT c)
theorem rgsC_snoc (c : Pc.Cf) (n : Nat) : rgsC c (n + 1) = rgsC c n ++ rgT c n := by simp [rgsC, List.range_succ, List.flatMap_append]
theorem rgsC_len (c : Pc.Cf) : ∀ n, (rgsC c n).length = n * 3
  | 0 => rfl
  | n + 1 => by
    rw [rgsC_snoc, List.length_append, rgsC_len c n]
    simp [rgT]
    omega
theorem info_rgn : (Try.prog.info? 54).map (fun i => (i.zero, i.size, i.bytes)) = some (some (.agg #[.int .i64 0, .int .i64 0, .int .i64 0]), 3, 24) := by kernel_rfl
theorem one_three (a b c : Int) : ∀ u ∈ [Value.int .i64 a, .int .i64 b, .int .i64 c], u.oneCell' = true := by
  intro u hu
  simp only [List.mem_cons, List.not_mem_nil, or_false] at hu
  rcases hu with rfl | rfl | rfl <;> rfl
theorem wz {j n : Nat} (h : j < n) (h8 : n ≤ 8) : wrap64 ((j : Int) + 1) = (j : Int) + 1 := by unfold wrap64; omega
set_option maxRecDepth 10000 in
set_option maxHeartbeats 4000000 in
/-- The regions of a configuration that may be. -/
theorem regs_any {w : World} {v : Value} {c : Pc.Cf} (h : Pc.CfV w v c) (h8 : c.R.length ≤ 8) : Calls Try.prog 7 #[v] w fun e w' => ∃ u, e = .returned u ∧ w'.ownsRow w.heap.size 54 3 u c.R.length (rgsC c c.R.length) ∧ Below w.heap.size w w' := by
  have HBA : Hid (∀ (w' : World) (i : Nat), Below w.heap.size w w' → Calls Try.prog 13 #[v, .int .i64 (i : Int)] w' fun e w'' => e = .returned (.tuple #[.int .i64 (Pc.baseV c (i : Int)).1, .int .i64 (Pc.baseV c (i : Int)).2]) ∧ Below w'.heap.size w' w'') := fun w' i hb => Pc.base_any (h.later hb (Nat.le_refl _)) (i : Int)
  obtain ⟨vr, rfl, hR⟩ := h
  obtain ⟨ar, cap, rfl, hlen, hcap, hcs, hl⟩ := hR
  have HL : Hid (Pc.Rl w (.slice ar c.R.length cap) c.R) := ⟨ar, cap, rfl, hlen, hcap, hcs, hl⟩
  clear hl hcap hcs
  obtain ⟨i0, hi, hz0, hz1, hz2⟩ := info_parts info_rgn
  have HSN : Hid (∀ j, rgsC c (j + 1) = rgsC c j ++ [.int .i64 (Pc.nthR c.R j).1, .int .i64 (Pc.baseV c (j : Int)).1, .int .i64 (Pc.nthR c.R j).2]) := fun j => rgsC_snoc c j
  generalize hC : rgsC c = C at *
  generalize hBV : Pc.baseV c = BV at *
  have hC0 : C 0 = [] := by rw [← hC]; rfl
  clear hC hBV
  obtain ⟨rw0, b, d, s, mu, t, R⟩ := c
  unfold Pc.cfA at *
  dsimp only at *
  go_enter Try.func7, Try.ntmps7
  go_wp2_with fail
  have hr0 := heap_alloc_new w (.cells #[.int .i64 rw0, .int .i64 b, .int .i64 d, .int .i64 s, .bool mu, .int .i64 t, .slice ar R.length cap] 24)
  have hb0 := below_a1 w (.cells #[.int .i64 rw0, .int .i64 b, .int .i64 d, .int .i64 s, .bool mu, .int .i64 t, .slice ar R.length cap] 24)
  generalize w.alloc (.cells #[.int .i64 rw0, .int .i64 b, .int .i64 d, .int .i64 s, .bool mu, .int .i64 t, .slice ar R.length cap] 24) = w0 at *
  have hl0 := heap_lt hr0
  have HR0 : Hid (w0.heap[w.heap.size]? = some (.cells #[.int .i64 rw0, .int .i64 b, .int .i64 d, .int .i64 s, .bool mu, .int .i64 t, .slice ar R.length cap] 24 (0, 0))) := hr0
  have HB0 : Hid (Below w.heap.size w w0) := hb0
  clear hr0 hb0
  go_loopw [3, 11] (fun hv iv wr => ∃ j : Nat, j ≤ R.length ∧ iv = .int .i64 (j : Int) ∧ wr.ownsRow w0.heap.size 54 3 hv j (C j) ∧ Below w0.heap.size w0 wr) (fun _ iv _ => R.length - (intOf iv).toNat)
  case atStart => exact ⟨0, by omega, rfl, by rw [hC0]; exact World.ownsRow_nil _ _ _ _, Below.refl _ _⟩
  case round =>
    obtain ⟨j, hj, rfl, hown, hbel⟩ := hrel
    have HO : Hid (wr.ownsRow w0.heap.size 54 3 u3 j (C j)) := hown
    have HB : Hid (Below w0.heap.size w0 wr) := hbel
    have hsz : w0.heap.size ≤ wr.heap.size := hbel.size
    by_cases hlt : j < R.length
    · have hjd : decide ((j : Int) < (R.length : Int)) = true := by simp; omega
      have hbw : Below w.heap.size w wr := HB0.out.trans (hbel.mono HB0.out.size)
      obtain ⟨x, rfl, z1, z2⟩ : ∃ x, ar = some x ∧ wr.cell? (x.add (j * 2)) = some (.int .i64 (Pc.nthR R j).1) ∧ wr.cell? ⟨(x.add (j * 2)).block, (x.add (j * 2)).off + 1, none⟩ = some (.int .i64 (Pc.nthR R j).2) := by
        obtain ⟨a', cap', hv, _, _, _, hl⟩ := HL.out.later hbw (Nat.le_refl _)
        injection hv with h1 h2 h3
        subst h1
        obtain ⟨x, hx, _, hc⟩ := hl.resolve_left (by omega)
        exact ⟨x, hx, hc j hlt⟩
      have hw : wrap64 ((j : Int) + 1) = (j : Int) + 1 := wz hlt h8
      have HM : Hid (R.length - (j + 1) < R.length - j) := by show R.length - (j + 1) < R.length - j; omega
      have hrr : wr.heap[w.heap.size]? = some (.cells #[.int .i64 rw0, .int .i64 b, .int .i64 d, .int .i64 s, .bool mu, .int .i64 t, .slice (some x) R.length cap] 24 (0, 0)) := (hbel.block _ hl0).trans HR0.out
      obtain ⟨k0, k1, k2, k3, k4, k5, k6⟩ : wr.cell? ⟨w.heap.size, 0, none⟩ = some (.int .i64 rw0) ∧ wr.cell? ⟨w.heap.size, 1, none⟩ = some (.int .i64 b) ∧ wr.cell? ⟨w.heap.size, 2, none⟩ = some (.int .i64 d) ∧ wr.cell? ⟨w.heap.size, 3, none⟩ = some (.int .i64 s) ∧ wr.cell? ⟨w.heap.size, 4, none⟩ = some (.bool mu) ∧ wr.cell? ⟨w.heap.size, 5, none⟩ = some (.int .i64 t) ∧ wr.cell? ⟨w.heap.size, 6, none⟩ = some (.slice (some x) R.length cap) := ⟨(cell_at hrr 0).trans rfl, (cell_at hrr 1).trans rfl, (cell_at hrr 2).trans rfl, (cell_at hrr 3).trans rfl, (cell_at hrr 4).trans rfl, (cell_at hrr 5).trans rfl, (cell_at hrr 6).trans rfl⟩
      have hlr : w.heap.size < wr.heap.size := heap_lt hrr
      have HSJ := HSN.out j
      have HBJ : Hid (∀ (w' : World), Below w.heap.size w w' → Calls Try.prog 13 #[.agg #[.int .i64 rw0, .int .i64 b, .int .i64 d, .int .i64 s, .bool mu, .int .i64 t, .slice (some x) R.length cap], .int .i64 (j : Int)] w' fun e w'' => e = .returned (.tuple #[.int .i64 (BV (j : Int)).1, .int .i64 (BV (j : Int)).2]) ∧ Below w'.heap.size w' w'') := fun w' hb => HBA.out w' j hb
      generalize (BV (j : Int)).1 = y1 at *
      generalize (BV (j : Int)).2 = y2 at *
      generalize (Pc.nthR R j).1 = r1 at *
      generalize (Pc.nthR R j).2 = r2 at *
      have HSJ' : Hid (C (j + 1) = C j ++ [.int .i64 r1, .int .i64 y1, .int .i64 r2]) := HSJ
      have HBW : Hid (Below w.heap.size w wr) := hbw
      clear HL HBA HSN HSJ hbel hbw hown hrr HR0
      go_wp2_with fail
      refine (HBJ.out _ (below_alloc HBW.out _)).mono ?_
      rintro e w1 ⟨rfl, hb1⟩
      have hr1 := row_next hb1
      have q0 : w1.cell? ⟨wr.heap.size, 0, none⟩ = some (.int .i64 r1) := (cell_at hr1 0).trans rfl
      have q1 : w1.cell? ⟨wr.heap.size, 1, none⟩ = some (.int .i64 r2) := (cell_at hr1 1).trans rfl
      have hb2 := below_next hb1
      have HO1 : Hid (w1.ownsRow w0.heap.size 54 3 u3 j (C j)) := own_keep HO.out (Keep.of_below hb2 []) (by simp)
      have HB1 : Hid (Below w0.heap.size w0 w1) := HB.out.trans (hb2.mono hsz)
      have hsz1 : w0.heap.size ≤ w1.heap.size := HB1.out.size
      obtain ⟨va, vc, rfl⟩ := own_slice HO1.out
      clear hb1 hr1 hb2 HO HB HBW HBJ z1 z2 k0 k1 k2 k3 k4 k5 k6
      go_wp2_with (at_builtin; refine list_lies_wide _ rfl _ _ 34 rfl w0.heap.size 54 i0 _ 3 24 Try.underlying34 hi hz0 hz1 hz2 rfl (by decide) _ _ _ rfl (HO1.out.alloc _) ⟨w1.heap.size, 0, none⟩ 1 1 [.int .i64 r1, .int .i64 y1, .int .i64 r2] rfl rfl ?c1 ?c2 ?c3 ?c4 ?c5 ?c6 _ rfl ?_)
      case c1 => exact World.news_of_block (cs := #[.int .i64 r1, .int .i64 y1, .int .i64 r2]) (t := 54) (fr := (0, 0)) (heap_alloc_new _ _)
      case c2 => exact one_three _ _ _
      case c3 => decide
      case c4 => unfold maxLen; omega
      case c5 => omega
      case c6 => simp; omega
      intro g cp w2 hown' hgrow _ _
      have HO2 : Hid (w2.ownsRow w0.heap.size 54 3 (.slice (some ⟨g, 0, none⟩) (j + 1) cp) (j + 1) (C (j + 1))) := by rw [Hid, HSJ'.out]; exact hown'
      have HB2 : Hid (Below w0.heap.size w0 w2) := (HB1.out.trans ((below_a1 w1 _).mono hsz1)).grown hgrow (by simp; omega) (fun b hb => by have := own_block HO1.out b hb; omega)
      clear hown' hgrow
      go_wp2
      go_roundw
      case rel => exact ⟨j + 1, hlt, by go_num, HO2.out, HB2.out⟩
      case measure => simpa [intOf] using HM.out
    · obtain rfl : j = R.length := by omega
      clear HL HBA HSN hbel hown HR0
      have HF : Hid (wr.ownsRow w.heap.size 54 3 u3 R.length (C R.length) ∧ Below w.heap.size w wr) := ⟨own_base HO.out HB0.out.size, HB0.out.trans (HB.out.mono HB0.out.size)⟩
      go_wp2_with fail
      go_ret
      exact ⟨_, rfl, HF.out.1, HF.out.2⟩
set_option maxRecDepth 100000 in
/-- append of a whole list that was handed in onto a list that the call owns. -/
theorem wpList_append_nl (w : World) {ops : Array Oper} {rest : List Oper} {o : Oper} {a : Act} {Q : Exit → Act → World → Prop} (hgd : o.guard = none) (s x : Operand)
    (ho : o.op = .call { callee := .builtin .append, args := #[s, x], argTypes := #[25, 25] }) (base : Nat) (v : Value) (n : Nat) (xs : List Value) (hs : a.eval s = v) (hown : w.ownsRow base 2 1 v n xs)
    (u : Value) (l : List Int) (hx : a.eval x = u) (hl : Nl w u l) (h63 : n + l.length ≤ maxLen) (hbytes : (n + l.length) * 8 ≤ 140737488355328) (hbase : base ≤ w.heap.size)
    (h : ∀ v' w', w'.ownsRow base 2 1 v' (n + l.length) (xs ++ numC l) → w.grownBy w' v.ownBlock → wpList Try.prog ops Q rest (a.put o.dst v') w') : wpList Try.prog ops Q (o :: rest) a w := by
  obtain ⟨i0, hi, hz0, hz1, hz2⟩ := info_parts info_i64
  obtain ⟨ad, cap, rfl, hbig, hc1, ⟨hc2, hnil⟩, _, hc⟩ := hl
  cases ad with
  | none =>
    have hl0 : l.length = 0 := by
      rcases hc with h0 | ⟨x, hx', _⟩
      · exact h0
      · cases hx'
    obtain rfl : l = [] := List.eq_nil_of_length_eq_zero hl0
    obtain rfl : cap = 0 := hnil rfl
    refine wpList_append_own_none hgd s x 25 ho base 2 i0 1 Try.underlying25 hi v n xs hs hown hx ?_
    exact h v w (by simpa [numC] using hown) ⟨rfl, rfl, rfl, Nat.le_refl _, fun _ _ _ => rfl⟩
  | some ad =>
    refine wpList_append_own w hgd s x 25 ho base 2 i0 (.int .i64 0) 1 8 Try.underlying25 hi hz0 hz1 hz2 rfl (by decide) v n xs hs hown ad l.length cap (numC l) hx (by rw [numC_len]; omega) (fun j u' hu => ?_) (fun u' hu => ?_) h63 hbytes hbase fun v' w' h1 h2 _ => h v' w' h1 h2
    · have hj : j < l.length := by
        have := (List.getElem?_eq_some_iff.1 hu).1
        rwa [numC_len] at this
      rw [numC_get l j hj] at hu
      obtain ⟨x, hx', _, hcell⟩ := hc.resolve_left (by omega)
      injection hx' with hx'
      subst hx'
      injection hu with hu
      rw [← hu]
      exact hcell j hj
    · simp only [numC, List.mem_map] at hu
      obtain ⟨z, _, rfl⟩ := hu
      rfl
/-- A list is copied. -/
theorem copi_any {w : World} {v : Value} {l : List Int} (h : Nl w v l) : Calls Try.prog 8 #[v] w fun e w' => ∃ u, e = .returned u ∧ w'.ownsRow w.heap.size 2 1 u l.length (numC l) ∧ Below w.heap.size w w' := by
  have HN : Hid (Nl w v l) := h
  obtain ⟨a, cap, rfl, hl, _⟩ := h
  go_enter Try.func8, Try.ntmps8
  go_wp2_with (at_builtin; refine wpList_append_nl _ rfl _ _ rfl w.heap.size _ 0 [] rfl (World.ownsRow_nil _ _ _ _) _ l rfl HN.out ?c1 ?c2 ?c3 ?_)
  case c1 => unfold maxLen; omega
  case c2 => omega
  case c3 => exact Nat.le_refl _
  intro v' w' h1 h2
  go_wp2_with fail
  go_ret
  refine ⟨_, rfl, by simpa using h1, h2.os, h2.tape, h2.output, h2.size, fun b hb => h2.block b hb (by simp [Value.ownBlock])⟩
end Go.Proofs.Ytceogkgnapdeiaa.Pg
