/- Shapes are compared: the document's SameShape, SameShapes. -/
import Derived.Test.YtgbmnngmfcneaaaPlS
import Derived.Test.YtgbmnngmfcneaaaCoN
namespace Go.Proofs.Ytgbmnngmfcneaaa.Pl
open Go.ChangeShapes Go.WideShapes Go.ChangeAt Go.RowKit
attribute [local go_sem ↓] Go.wp_at_zero Go.wp_at_succ

theorem len2 {α : Type} {l : List α} (h : l.length = 2) : ∃ a b, l = [a, b] := by
  match l, h with
  | [a, b], _ => exact ⟨a, b, rfl⟩
theorem eq_pair (k v : Int) (w : World) (d : Nat) : (Op.equalIn (d + 2) 52 (.agg #[.int .i64 k, .int .i64 v]) (.agg #[.int .i64 k, .int .i64 v])).run Try.prog w = .ok true w := by
  rw [run_equalIn_struct w (d + 1) 52 _ _ (by kernel_rfl) (by kernel_rfl)]
  have hf : (Try.prog.fieldsOf 52).toList.map (fun f => (f.name, f.type, f.offset)) = [("Key", 2, 0), ("Value", 2, 1)] := by kernel_rfl
  generalize (Try.prog.fieldsOf 52).toList = fs at *
  have hl : fs.length = 2 := by have := congrArg List.length hf; simpa using this
  obtain ⟨f0, f1, rfl⟩ := len2 hl
  simp only [List.map_cons, List.map_nil, List.cons.injEq, Prod.mk.injEq, and_true] at hf
  obtain ⟨⟨n0, t0, o0⟩, n1, t1, o1⟩ := hf
  have p0 : (part 2 (#[.int .i64 k, .int .i64 v] : Array Value) 0).run Try.prog w = .ok (.int .i64 k) w := run_part_plain w (by kernel_rfl) rfl
  have p1 : (part 2 (#[.int .i64 k, .int .i64 v] : Array Value) 1).run Try.prog w = .ok (.int .i64 v) w := run_part_plain w (by kernel_rfl) rfl
  have q2 := fun v : Int => run_equalIn_int (P := Try.prog) w d 2 .i64 .i64 v v Try.underlying2
  simp [Op.eqFields, n0, n1, t0, t1, o0, o1, p0, p1, q2]
theorem neq_pair (k v : Int) (w : World) : (binOp .neq 52 (.agg #[.int .i64 k, .int .i64 v]) (.agg #[.int .i64 k, .int .i64 v])).run Try.prog w = .ok (.bool false) w := by
  rw [run_neq_struct, eq_pair k v w 9998]
  rfl
theorem sh_wrap {n i : Nat} (hi : i < n) (hn : n ≤ 64) : wrap64 ((i : Int) + 1) = ((i + 1 : Nat) : Int) := by
  unfold wrap64
  omega
theorem sh_less {n i : Nat} (h : i < n) : n - (i + 1) < n - i := by omega
theorem Pn.later {w w' : World} {v : Value} {T : List (Int × Int)} (h : Pn w v T) (hb : Below w.heap.size w w') : Pn w' v T := by
  obtain ⟨a, cap, rfl, h⟩ := h
  refine ⟨a, cap, rfl, ?_⟩
  rcases h with h | ⟨x, rfl, hx, hc⟩
  · exact Or.inl h
  · refine Or.inr ⟨x, rfl, Nat.lt_of_lt_of_le hx hb.size, fun i hi => ?_⟩
    obtain ⟨c1, c2⟩ := hc i hi
    exact ⟨cell_later hb (by rw [add_block]; exact hx) c1, cell_later hb (a := ⟨(x.add (i * 2)).block, (x.add (i * 2)).off + 1, none⟩) (by rw [add_block]; exact hx) c2⟩
theorem pn_at {w : World} {va : Option Addr} {n cap : Nat} {P : List (Int × Int)} (h : Pn w (.slice va n cap) P) {k : Nat} (hk : k < P.length) : ∃ x, va = some x ∧ w.cell? (x.add (k * 2)) = some (.int .i64 (nthP P k).1) ∧ w.cell? ⟨(x.add (k * 2)).block, (x.add (k * 2)).off + 1, none⟩ = some (.int .i64 (nthP P k).2) := by
  obtain ⟨a, c, e, h⟩ := h
  injection e with e1 e2 e3
  subst e1
  rcases h with h | ⟨x, rfl, hx, hc⟩
  · omega
  · exact ⟨x, rfl, hc k hk⟩
set_option maxRecDepth 100000 in
set_option maxHeartbeats 2000000 in
/-- Two shapes of one kind, with the same values and pairs. -/
theorem sshp_any {w : World} {k : Int} {va vb pa pb : Value} {l : List Int} {Z : List (Int × Int)} (h1 : Nl w va l) (h2 : Nl w vb l) (ha : Pn w pa Z) (hb : Pn w pb Z) (hz : Z.length ≤ 64) : Calls Try.prog 55 #[.agg #[.int .i64 k, va, pa], .agg #[.int .i64 k, vb, pb]] w fun e w' => e = .returned (.bool true) ∧ Below w.heap.size w w' := by
  have HS : Hid (∀ w' : World, Below w.heap.size w w' → Calls Try.prog 16 #[va, vb] w' fun e w'' => e = .returned (.bool true) ∧ Below w'.heap.size w' w'') := fun w' hb => by have := same_any (h1.later hb (Nat.le_refl _)) (h2.later hb (Nat.le_refl _)); simpa using this
  have HPA : Hid (∀ w' : World, Below w.heap.size w w' → Pn w' pa Z) := fun w' h => ha.later h
  have HPB : Hid (∀ w' : World, Below w.heap.size w w' → Pn w' pb Z) := fun w' h => hb.later h
  obtain ⟨aa, ca, rfl, _⟩ := ha
  obtain ⟨ab, cb, rfl, _⟩ := hb
  obtain ⟨la, lca, rfl⟩ := nl_slice h1
  obtain ⟨lb', lcb, rfl⟩ := nl_slice h2
  have HZ : Hid (Z.length ≤ 64) := hz
  clear hz h1 h2
  go_enter Try.func55, Try.ntmps55
  go_wp2_with fail
  refine (HS.out _ (below_alloc (below_a1 _ _) _)).mono ?_
  rintro e w1 ⟨rfl, hb⟩
  have hra := row_next1 hb
  have hrb := row_next2 hb
  have a0 : w1.cell? ⟨w.heap.size, 0, none⟩ = some (.int .i64 k) := by rw [cell_at hra]; rfl
  have a2 : w1.cell? ⟨w.heap.size, 2, none⟩ = some (.slice aa Z.length ca) := by rw [cell_at hra]; rfl
  have b0 : w1.cell? ⟨w.heap.size + 1, 0, none⟩ = some (.int .i64 k) := by rw [cell_at hrb]; rfl
  have b2 : w1.cell? ⟨w.heap.size + 1, 2, none⟩ = some (.slice ab Z.length cb) := by rw [cell_at hrb]; rfl
  have HB : Hid (Below w.heap.size w w1) := below_next2 hb
  have hl1 := heap_lt hra
  have hl2 := heap_lt hrb
  have HL : Hid (w.heap.size < w1.heap.size ∧ w.heap.size + 1 < w1.heap.size) := ⟨hl1, hl2⟩
  clear hb hra hrb HS hl1 hl2
  go_wp2_with fail
  go_loopw [6] (fun iv wr => ∃ i : Nat, i ≤ Z.length ∧ iv = .int .i64 (i : Int) ∧ Below w1.heap.size w1 wr) (fun iv _ => Z.length - (intOf iv).toNat)
  case atStart => exact ⟨0, Nat.zero_le _, rfl, Below.refl _ _⟩
  case round =>
    obtain ⟨i, hi, rfl, hbr⟩ := hrel
    have HBR : Hid (Below w1.heap.size w1 wr) := hbr
    have e2 : wr.cell? ⟨w.heap.size, 2, none⟩ = some (.slice aa Z.length ca) := cell_later hbr (a := ⟨w.heap.size, 2, none⟩) HL.out.1 a2
    have f2 : wr.cell? ⟨w.heap.size + 1, 2, none⟩ = some (.slice ab Z.length cb) := cell_later hbr (a := ⟨w.heap.size + 1, 2, none⟩) HL.out.2 b2
    have HWB : Hid (Below w.heap.size w wr) := below_then HB.out hbr
    clear hbr
    by_cases hlt : i < Z.length
    · obtain ⟨x, rfl, x0, x1⟩ := pn_at (HPA.out wr HWB.out) hlt
      obtain ⟨y, rfl, y0, y1⟩ := pn_at (HPB.out wr HWB.out) hlt
      have d1 : decide ((i : Int) < (Z.length : Int)) = true := by simpa using hlt
      have HIW : Hid (wrap64 ((i : Int) + 1) = ((i + 1 : Nat) : Int)) := sh_wrap hlt HZ.out
      have hne := fun w => neq_pair (nthP Z i).1 (nthP Z i).2 w
      generalize (nthP Z i).1 = zk at *
      generalize (nthP Z i).2 = zv at *
      clear hi a0 a2 b0 b2
      go_wp2_with fail
      go_quiet (fail)
      go_wp2_with fail
      go_roundw
      case rel => exact ⟨i + 1, hlt, by first | rw [HIW.out] | go_num, HBR.out.trans ((below_drawn (Below.refl _ _) _).mono HBR.out.size)⟩
      case measure =>
        try rw [HIW.out]
        exact sh_less hlt
    · have d1 : decide ((i : Int) < (Z.length : Int)) = false := by simpa using hlt
      clear hi a0 a2 b0 b2
      go_wp2_with fail
      go_ret
      exact ⟨rfl, HWB.out⟩
/-- Shapes behind a slice. -/
def ShL (w : World) (v : Value) (cs : List Co) : Prop := ∃ a cap, v = .slice a cs.length cap ∧ (cs.length = 0 ∨ ∃ x, a = some x ∧ x.block < w.heap.size ∧ ∀ i, i < cs.length → ∃ u p, w.cell? (x.add (i * 3)) = some (.int .i64 (nthC cs i).kd) ∧ w.cell? ⟨(x.add (i * 3)).block, (x.add (i * 3)).off + 1, none⟩ = some u ∧ w.cell? ⟨(x.add (i * 3)).block, (x.add (i * 3)).off + 2, none⟩ = some p ∧ Nl w u (nthC cs i).vs ∧ Pn w p (nthC cs i).ps)
theorem ShL.later {w w' : World} {v : Value} {cs : List Co} (h : ShL w v cs) (hb : Below w.heap.size w w') : ShL w' v cs := by
  obtain ⟨a, cap, rfl, h⟩ := h
  refine ⟨a, cap, rfl, ?_⟩
  rcases h with h | ⟨x, rfl, hx, hc⟩
  · exact Or.inl h
  · refine Or.inr ⟨x, rfl, Nat.lt_of_lt_of_le hx hb.size, fun i hi => ?_⟩
    obtain ⟨u, p, c0, c1, c2, hn, hp⟩ := hc i hi
    exact ⟨u, p, cell_later hb (by rw [add_block]; exact hx) c0, cell_later hb (a := ⟨(x.add (i * 3)).block, (x.add (i * 3)).off + 1, none⟩) (by rw [add_block]; exact hx) c1, cell_later hb (a := ⟨(x.add (i * 3)).block, (x.add (i * 3)).off + 2, none⟩) (by rw [add_block]; exact hx) c2, hn.later hb (Nat.le_refl _), hp.later hb⟩
theorem shl_at {w : World} {va : Option Addr} {n cap : Nat} {cs : List Co} (h : ShL w (.slice va n cap) cs) {k : Nat} (hk : k < cs.length) : ∃ x u p, va = some x ∧ w.cell? (x.add (k * 3)) = some (.int .i64 (nthC cs k).kd) ∧ w.cell? ⟨(x.add (k * 3)).block, (x.add (k * 3)).off + 1, none⟩ = some u ∧ w.cell? ⟨(x.add (k * 3)).block, (x.add (k * 3)).off + 2, none⟩ = some p ∧ Nl w u (nthC cs k).vs ∧ Pn w p (nthC cs k).ps := by
  obtain ⟨a, c, e, h⟩ := h
  injection e with e1 e2 e3
  subst e1
  rcases h with h | ⟨x, rfl, hx, hc⟩
  · omega
  · obtain ⟨u, p, h⟩ := hc k hk
    exact ⟨x, u, p, rfl, h⟩
set_option maxRecDepth 100000 in
theorem sshps_any {w : World} {va vb : Value} {cs : List Co} (ha : ShL w va cs) (hb : ShL w vb cs) (h8 : cs.length ≤ 8) (hok : ∀ i, i < cs.length → CoOk (nthC cs i)) : Calls Try.prog 44 #[va, vb] w fun e w' => e = .returned (.bool true) ∧ Below w.heap.size w w' := by
  have HPA : Hid (∀ w' : World, Below w.heap.size w w' → ShL w' va cs) := fun w' h => ha.later h
  have HPB : Hid (∀ w' : World, Below w.heap.size w w' → ShL w' vb cs) := fun w' h => hb.later h
  obtain ⟨aa, ca, rfl, _⟩ := ha
  obtain ⟨ab, cb, rfl, _⟩ := hb
  have H8 : Hid (cs.length ≤ 64) := by show cs.length ≤ 64; omega
  have HOK : Hid (∀ i, i < cs.length → (nthC cs i).ps.length ≤ 64) := fun i hi => by
    have := (hok i hi).pm
    have := (hok i hi).c16
    omega
  clear h8 hok
  go_enter Try.func44, Try.ntmps44
  go_wp2_with fail
  go_loopw [5] (fun iv wr => ∃ i : Nat, i ≤ cs.length ∧ iv = .int .i64 (i : Int) ∧ Below w.heap.size w wr) (fun iv _ => cs.length - (intOf iv).toNat)
  case atStart => exact ⟨0, Nat.zero_le _, rfl, Below.refl _ _⟩
  case round =>
    obtain ⟨i, hi, rfl, hbr⟩ := hrel
    have HBR : Hid (Below w.heap.size w wr) := hbr
    clear hbr
    by_cases hlt : i < cs.length
    · obtain ⟨x, u, p, rfl, x0, x1, x2, hn1, hp1⟩ := shl_at (HPA.out wr HBR.out) hlt
      obtain ⟨y, u', p', rfl, y0, y1, y2, hn2, hp2⟩ := shl_at (HPB.out wr HBR.out) hlt
      have d1 : decide ((i : Int) < (cs.length : Int)) = true := by simpa using hlt
      have HIW : Hid (wrap64 ((i : Int) + 1) = ((i + 1 : Nat) : Int)) := sh_wrap hlt H8.out
      have HC : Hid (∀ n, Calls Try.prog 55 #[.agg #[.int .i64 (nthC cs i).kd, u, p], .agg #[.int .i64 (nthC cs i).kd, u', p']] (wr.drewN n) fun e w' => e = .returned (.bool true) ∧ Below wr.heap.size wr w') := fun n => by
        have hb := below_drawn (Below.refl wr.heap.size wr) n
        exact (sshp_any (hn1.later hb (Nat.le_refl _)) (hn2.later hb (Nat.le_refl _)) (hp1.later hb) (hp2.later hb) (HOK.out i hlt)).mono (fun e w' ⟨h1, h2⟩ => ⟨h1, below_then hb h2⟩)
      generalize (nthC cs i).kd = kd at *
      clear hi hn1 hn2 hp1 hp2
      go_wp2_with fail
      go_region_with ((go_at_call 55; refine (HC.out 1).mono ?_; rintro e w3 ⟨rfl, hb3⟩; have HB3 : Hid (Below w.heap.size w w3) := below_then HBR.out hb3))
      all_goals
        clear hb3 HC
        go_wp2_with fail
        go_roundw
        case rel => exact ⟨i + 1, hlt, by first | rw [HIW.out] | go_num, HB3.out⟩
        case measure =>
          try rw [HIW.out]
          exact sh_less hlt
    · have d1 : decide ((i : Int) < (cs.length : Int)) = false := by simpa using hlt
      clear hi
      go_wp2_with fail
      go_ret
      exact ⟨rfl, HBR.out⟩
end Go.Proofs.Ytgbmnngmfcneaaa.Pl
