/- A memory's views are the document's: the law's entries and sees. -/
import Derived.Test.YtacioekmeildoaaRngJ
import Derived.Test.YtacioekmeildoaaRefE
import Derived.ChangeKeysEq
import Derived.Laws.StructEq
namespace Go.Proofs.Ytacioekmeildoaa
open Go.ChangeShapes Go.WideShapes Go.ChangeAt Go.RowKit
attribute [local go_sem ↓] Go.wp_at_zero Go.wp_at_succ

/-- The cells of one entry of a list that lies from a block's beginning on. -/
theorem entC_get : ∀ (l : List En) (i j : Nat) (hi : i < l.length), j < 10 → (entC l)[i * 10 + j]? = (enC l[i])[j]?
  | [], i, j, hi, _ => by simp at hi
  | x :: l, 0, j, hi, hj => by
    simp only [entC, List.flatMap_cons]
    rw [List.getElem?_append_left (by simp [enC_size]; omega)]
    simp
  | x :: l, i + 1, j, hi, hj => by
    have h := entC_get l i j (by simpa using hi) hj
    simp only [entC, List.flatMap_cons] at h ⊢
    rw [List.getElem?_append_right (by simp [enC_size]; omega)]
    simp only [Array.length_toList, enC_size]
    rw [show (i + 1) * 10 + j - 10 = i * 10 + j by omega, h]
    simp
theorem own_ent {w : World} {base g cap : Nat} {l : List En} (h : w.ownsRow base 56 10 (.slice (some ⟨g, 0, none⟩) l.length cap) l.length (entC l)) (i : Nat) (hi : i < l.length) (st m : Int) (s : Int → Int) (e : l[i] = ⟨st, m, s⟩) :
    w.cell? ⟨g, i * 10, none⟩ = some (.int .i64 st) ∧ w.cell? ⟨g, i * 10 + 1, none⟩ = some (.int .i64 m) ∧ w.cell? ⟨g, i * 10 + 2, none⟩ = some (.int .u64 (s 0)) ∧ w.cell? ⟨g, i * 10 + 3, none⟩ = some (.int .u64 (s 1)) ∧ w.cell? ⟨g, i * 10 + 4, none⟩ = some (.int .u64 (s 2)) ∧
    w.cell? ⟨g, i * 10 + 5, none⟩ = some (.int .u64 (s 3)) ∧ w.cell? ⟨g, i * 10 + 6, none⟩ = some (.int .u64 (s 4)) ∧ w.cell? ⟨g, i * 10 + 7, none⟩ = some (.int .u64 (s 5)) ∧ w.cell? ⟨g, i * 10 + 8, none⟩ = some (.int .u64 (s 6)) ∧ w.cell? ⟨g, i * 10 + 9, none⟩ = some (.int .u64 (s 7)) := by
  have hc : ∀ j v, j < 10 → (enC l[i])[j]? = some v → w.cell? ⟨g, i * 10 + j, none⟩ = some v := fun j v hj hv => own_cells h _ _ (by rw [entC_get l i j hi hj]; exact hv)
  rw [e] at hc
  exact ⟨hc 0 _ (by decide) rfl, hc 1 _ (by decide) rfl, hc 2 _ (by decide) rfl, hc 3 _ (by decide) rfl, hc 4 _ (by decide) rfl, hc 5 _ (by decide) rfl, hc 6 _ (by decide) rfl, hc 7 _ (by decide) rfl, hc 8 _ (by decide) rfl, hc 9 _ (by decide) rfl⟩

/-! ### a signature is itself -/
theorem info_u64 : (Try.prog.info? 52).map (fun i => (i.zero, i.size, i.bytes)) = some (some (.int .u64 0), 1, 8) := by kernel_rfl
theorem cells_u64 : Try.prog.cellsOf 52 = 1 := by kernel_rfl
theorem part_sg (g : Int → Int) (i : Nat) (h : i < 8) (w : World) : (part 52 (sgC g) i).run Try.prog w = .ok (.int .u64 (g i)) w :=
  run_part_plain w (by kernel_rfl) (sgC_get g i h)
theorem eqItems_sg (g : Int → Int) (d : Nat) (w : World) : ∀ (is : List Nat), (∀ i ∈ is, i < 8) →
    (Op.eqItems (d + 1) 52 1 (sgC g) (sgC g) is).run Try.prog w = .ok true w
  | [], _ => by simp [Op.eqItems]
  | i :: is, h => by
    have hi := h i (by simp)
    have ih := eqItems_sg g d w is (fun j hj => h j (by simp [hj]))
    simp only [Op.eqItems, Sem.run_bind, Nat.mul_one, part_sg g i (by omega), Result.andThen_ok, run_equalIn_int w d 52 .u64 .u64 _ _ Try.underlying52]
    simpa using ih
theorem eq_sg (g : Int → Int) (d : Nat) (w : World) : (Op.equalIn (d + 2) 54 (.agg (sgC g)) (.agg (sgC g))).run Try.prog w = .ok true w := by
  obtain ⟨i0, hi, _⟩ := info_parts info_u64
  rw [run_equalIn_array w (d + 1) _ _ Try.underlying54 hi, cells_u64, eqItems_sg g d w _ (fun i h => List.mem_range.1 h)]

set_option maxRecDepth 100000 in
set_option maxHeartbeats 3200000 in
/-- Two lists that are the same are found the same. -/
theorem entries_same (w : World) (b1 b2 : Nat) (v u : Value) (l : List En) (hl : l.length ≤ 1000000) (hv : w.ownsRow b1 56 10 v l.length (entC l)) (hu : w.ownsRow b2 56 10 u l.length (entC l)) :
    Calls Try.prog 38 #[v, u] w fun e w' => e = .returned (.bool true) ∧ ∃ n, w' = w.drewN n := by
  obtain ⟨a, ca, rfl⟩ := own_slice hv
  obtain ⟨b, cb, rfl⟩ := own_slice hu
  have HV : Hid (w.ownsRow b1 56 10 (.slice a l.length ca) l.length (entC l)) := hv
  have HU : Hid (w.ownsRow b2 56 10 (.slice b l.length cb) l.length (entC l)) := hu
  clear hv hu
  obtain ⟨n, hn⟩ : ∃ n, l.length = n := ⟨_, rfl⟩
  have HLN : Hid (l.length = n) := hn
  rw [hn] at hl ⊢
  clear hn
  have hne : ((n : Int) != (n : Int)) = false := by simp
  go_enter Try.func38, Try.ntmps38
  go_wp2
  go_loopw [5] (fun i wr => ∃ j : Nat, j ≤ n ∧ i = .int .i64 j ∧ ∃ q, wr = w.drewN q) (fun i _ => n - (intOf i).toNat)
  case atStart => exact ⟨0, Nat.zero_le _, rfl, 0, rfl⟩
  case round =>
    obtain ⟨j, hj, rfl, hwr⟩ := hrel
    have HW : Hid (∃ q, wr = w.drewN q) := hwr
    clear hwr
    by_cases hlt : j < n
    · have hjL : j < l.length := by rw [HLN.out]; exact hlt
      obtain ⟨g, cap, hform, _, _⟩ := HV.out.form (by omega)
      obtain ⟨g2, cap2, hform2, _, _⟩ := HU.out.form (by omega)
      obtain ⟨rfl, _, rfl⟩ : a = some ⟨g, 0, none⟩ ∧ l.length = l.length ∧ ca = cap := by simpa using hform
      obtain ⟨rfl, _, rfl⟩ : b = some ⟨g2, 0, none⟩ ∧ l.length = l.length ∧ cb = cap2 := by simpa using hform2
      clear hform hform2
      obtain ⟨st, m, s, hes⟩ : ∃ st m s, l[j] = ⟨st, m, s⟩ := ⟨_, _, _, rfl⟩
      have HV2 : Hid (wr.ownsRow b1 56 10 (.slice (some ⟨g, 0, none⟩) l.length ca) l.length (entC l)) := by obtain ⟨q, rfl⟩ := HW.out; exact own_keep HV.out ((Keep.refl [] _).drewN q) (fun _ _ => by simp)
      have HU2 : Hid (wr.ownsRow b2 56 10 (.slice (some ⟨g2, 0, none⟩) l.length cb) l.length (entC l)) := by obtain ⟨q, rfl⟩ := HW.out; exact own_keep HU.out ((Keep.refl [] _).drewN q) (fun _ _ => by simp)
      obtain ⟨d0, d1, d2, d3, d4, d5, d6, d7, d8, d9⟩ := own_ent HV2.out j hjL st m s hes
      obtain ⟨e0, e1, e2, e3, e4, e5, e6, e7, e8, e9⟩ := own_ent HU2.out j hjL st m s hes
      clear hes hjL
      have hx1 : (j : Int) < (n : Int) := by omega
      have hd : decide ((j : Int) < (n : Int)) = true := by simp; omega
      have hsg : ∀ w : World, (Op.equalIn 9999 54 (.agg #[.int .u64 (s 0), .int .u64 (s 1), .int .u64 (s 2), .int .u64 (s 3), .int .u64 (s 4), .int .u64 (s 5), .int .u64 (s 6), .int .u64 (s 7)]) (.agg #[.int .u64 (s 0), .int .u64 (s 1), .int .u64 (s 2), .int .u64 (s 3), .int .u64 (s 4), .int .u64 (s 5), .int .u64 (s 6), .int .u64 (s 7)])).run Try.prog w = .ok true w := fun w => eq_sg s 9997 w
      generalize s 0 = s0 at *
      generalize s 1 = s1 at *
      generalize s 2 = s2 at *
      generalize s 3 = s3 at *
      generalize s 4 = s4 at *
      generalize s 5 = s5 at *
      generalize s 6 = s6 at *
      generalize s 7 = s7 at *
      go_wp2
      go_quiet (fail)
      go_wp2
      go_roundw
      case rel => exact ⟨j + 1, by omega, by go_num, by obtain ⟨q, rfl⟩ := HW.out; exact ⟨_, World.drewN_drewN _ _ _⟩⟩
      case measure => simp [intOf]; omega
    · obtain rfl : j = n := by omega
      go_wp2
      go_ret
      exact ⟨rfl, HW.out⟩
/-- Some entries, whatever they are, in new memory. -/
def Some10 (w : World) (B : Nat) (v : Value) (n : Nat) : Prop := ∃ xs, w.ownsRow B 56 10 v n xs
theorem Some10.set {w : World} {B g n cap : Nat} (h : Some10 w B (.slice (some ⟨g, 0, none⟩) n cap) n) (o : Nat) (v : Value) : Some10 (w.setCell ⟨g, o, none⟩ v) B (.slice (some ⟨g, 0, none⟩) n cap) n := by
  obtain ⟨xs, h⟩ := h
  exact own_setCell h o v

set_option maxRecDepth 100000 in
set_option maxHeartbeats 3200000 in
theorem sees_any {w : World} {base base2 : Nat} {p q : Value} {c r c2 : Nat} {L : List Ac} {F G : List Nat} (hm : MemAt w base p c r L F) (hq : RefAt w base2 q c2 r L G) (hr0 : 1 ≤ r) (hr : r ≤ 16) (hL : L.length ≤ 2199023255552) (hW : Bd (wordOf L)) :
    Calls Try.prog 21 #[p, q] w fun e w' => e = .returned (.bool true) ∧ Below w.heap.size w w' := by
  obtain ⟨i0, hi, hz0, hz1, hz2⟩ := info_parts info_ent
  have hN := (hW ⟨1, 0, 0⟩).2
  have H1 : Hid (Calls Try.prog 24 #[p] w fun e w' => e = .returned (.int .i64 (wordOf L ⟨1, 0, 0⟩)) ∧ Below w.heap.size w w') := newest_any hm
  have H2 : Hid (∀ w', Below w.heap.size w w' → Calls Try.prog 35 #[q] w' fun e w'' => e = .returned (.int .i64 (wordOf L ⟨1, 0, 0⟩)) ∧ Below w'.heap.size w' w'') := fun w' hb => rnewest_any (hq.below hb) hL
  have H3 : Hid (∀ w', Below w.heap.size w w' → Calls Try.prog 25 #[p] w' fun e w'' => e = .returned (.int .i64 (completeV (wordOf L) r)) ∧ Below w'.heap.size w' w'') := fun w' hb => complete_any (hm.below hb) hr0 hr hN
  have H4 : Hid (∀ w', Below w.heap.size w w' → Calls Try.prog 36 #[q] w' fun e w'' => e = .returned (.int .i64 (completeV (wordOf L) r)) ∧ Below w'.heap.size w' w'') := fun w' hb => rcomplete_any (hq.below hb) hL hW
  have H5 : Hid (∀ w', Below w.heap.size w w' → Calls Try.prog 26 #[p] w' fun e w'' => ∃ v, e = .returned v ∧ w''.ownsRow w'.heap.size 56 10 v (entsV (wordOf L) r).length (entC (entsV (wordOf L) r)) ∧ Below w'.heap.size w' w'') := fun w' hb => entries_any (hm.below hb) hr0 hr hN
  have H6 : Hid (∀ w', Below w.heap.size w w' → Calls Try.prog 37 #[q] w' fun e w'' => ∃ v, e = .returned v ∧ w''.ownsRow w'.heap.size 56 10 v (entsV (wordOf L) r).length (entC (entsV (wordOf L) r)) ∧ Below w'.heap.size w' w'') := fun w' hb => rentries_any (hq.below hb) hr hL hW
  obtain ⟨M, rfl⟩ := hm.ptr
  obtain ⟨R, rfl⟩ := hq.ptr
  have hl : (entsV (wordOf L) r).length ≤ 16 := by rw [entsV_len]; have := manyV_le (wordOf L) r (by omega); omega
  clear hm hq hr0 hr hL hW hN
  generalize entsV (wordOf L) r = K at *
  generalize completeV (wordOf L) r = cv at *
  generalize wordOf L ⟨1, 0, 0⟩ = z at *
  go_enter Try.func21, Try.ntmps21
  go_wp2_with fail
  refine H1.out.mono ?_
  rintro e w1 ⟨rfl, hb1⟩
  have HB1 : Hid (Below w.heap.size w w1) := hb1
  clear hb1
  go_wp2_with fail
  refine (H2.out _ HB1.out).mono ?_
  rintro e w2 ⟨rfl, hb2⟩
  have HB2 : Hid (Below w.heap.size w w2) := below_then HB1.out hb2
  clear hb2
  go_wp2_with fail
  refine (H3.out _ HB2.out).mono ?_
  rintro e w3 ⟨rfl, hb3⟩
  have HB3 : Hid (Below w.heap.size w w3) := below_then HB2.out hb3
  clear hb3
  go_wp2_with fail
  refine (H4.out _ HB3.out).mono ?_
  rintro e w4 ⟨rfl, hb4⟩
  have HB4 : Hid (Below w.heap.size w w4) := below_then HB3.out hb4
  clear hb4
  go_wp2_with fail
  refine (H5.out _ HB4.out).mono ?_
  rintro e w5 ⟨v1, rfl, ho1, hb5⟩
  obtain ⟨a1, c1, rfl⟩ := own_slice ho1
  have HO1 : Hid (w5.ownsRow w4.heap.size 56 10 (.slice a1 K.length c1) K.length (entC K)) := ho1
  have HB5 : Hid (Below w.heap.size w w5) := below_then HB4.out hb5
  clear ho1 hb5
  go_wp2_with fail
  refine (H6.out _ HB5.out).mono ?_
  rintro e w6 ⟨v2, rfl, ho2, hb6⟩
  obtain ⟨a2, c2, rfl⟩ := own_slice ho2
  have HO2 : Hid (w6.ownsRow w5.heap.size 56 10 (.slice a2 K.length c2) K.length (entC K)) := ho2
  have HO12 : Hid (w6.ownsRow w4.heap.size 56 10 (.slice a1 K.length c1) K.length (entC K)) := own_keep HO1.out (Keep.of_below hb6 []) (fun _ _ => by simp)
  have HB6 : Hid (Below w.heap.size w w6) := below_then HB5.out hb6
  have HAC : Hid (Calls Try.prog 38 #[.slice a1 K.length c1, .slice a2 K.length c2] w6 fun e w' => e = .returned (.bool true) ∧ ∃ n, w' = w6.drewN n) := entries_same w6 _ _ _ _ K (by omega) HO12.out ho2
  clear ho2 hb6
  go_wp2_with fail
  refine HAC.out.mono ?_
  rintro e w7 ⟨rfl, nd, rfl⟩
  have hw4 : w.heap.size ≤ w4.heap.size := HB4.out.size
  have HS : Hid (Some10 (w6.drewN nd) w.heap.size (.slice a1 K.length c1) K.length) := by
    have h := own_keep HO12.out ((Keep.refl [] _).drewN nd) (fun _ _ => by simp)
    exact ⟨_, h.1, h.2.imp id fun ⟨g, cap, cur, e1, e2, e3, e4⟩ => ⟨g, cap, cur, e1, by omega, e3, e4⟩⟩
  have HB7 : Hid (Below w.heap.size w (w6.drewN nd)) := below_drawn HB6.out nd
  clear HAC HO12 HO1 HO2 H1 H2 H3 H4 H5 H6 HB1 HB2 HB3 HB4 HB5 HB6 hw4
  generalize K.length = n at *
  obtain ⟨x6, hx6⟩ : ∃ x6, x6 = w6.drewN nd := ⟨_, rfl⟩
  rw [← hx6] at HS HB7 ⊢
  clear hx6
  go_wp2
  go_loopw [12] (fun iv wr => ∃ j : Nat, j ≤ n ∧ iv = .int .i64 j ∧ Some10 wr w.heap.size (.slice a1 n c1) n ∧ Below w.heap.size w wr) (fun iv _ => n - (intOf iv).toNat)
  case atStart => exact ⟨0, Nat.zero_le _, rfl, HS.out, HB7.out⟩
  case round =>
    obtain ⟨j, hj, rfl, hs, hb⟩ := hrel
    have HSR : Hid (Some10 wr w.heap.size (.slice a1 n c1) n) := hs
    have HBR : Hid (Below w.heap.size w wr) := hb
    by_cases hlt : j < n
    · obtain ⟨xs, hx⟩ := hs
      obtain ⟨g, cap, hform, hg1, hg2⟩ := hx.form (by omega)
      obtain ⟨rfl, _, rfl⟩ : a1 = some ⟨g, 0, none⟩ ∧ n = n ∧ c1 = cap := by simpa using hform
      clear hform hb
      obtain ⟨⟨u0, d0⟩, f0⟩ := own_some hx (j * 10) (by omega)
      obtain ⟨⟨u1, d1⟩, f1⟩ := own_some hx (j * 10 + 1) (by omega)
      obtain ⟨⟨u2, d2⟩, f2⟩ := own_some hx (j * 10 + 2) (by omega)
      obtain ⟨⟨u3, d3⟩, f3⟩ := own_some hx (j * 10 + 3) (by omega)
      obtain ⟨⟨u4, d4⟩, f4⟩ := own_some hx (j * 10 + 4) (by omega)
      obtain ⟨⟨u5, d5⟩, f5⟩ := own_some hx (j * 10 + 5) (by omega)
      obtain ⟨⟨u6, d6⟩, f6⟩ := own_some hx (j * 10 + 6) (by omega)
      obtain ⟨⟨u7, d7⟩, f7⟩ := own_some hx (j * 10 + 7) (by omega)
      obtain ⟨⟨u8, d8⟩, f8⟩ := own_some hx (j * 10 + 8) (by omega)
      obtain ⟨⟨u9, d9⟩, f9⟩ := own_some hx (j * 10 + 9) (by omega)
      clear hx
      have hx1 : (j : Int) < (n : Int) := by omega
      have hd : decide ((j : Int) < (n : Int)) = true := by simp; omega
      go_wp2
      go_roundw
      case rel => exact ⟨j + 1, by omega, by go_num, ((((((((((HSR.out.set _ _).set _ _).set _ _).set _ _).set _ _).set _ _).set _ _).set _ _).set _ _).set _ _), ((((((((((HBR.out.setCell hg1 _).setCell hg1 _).setCell hg1 _).setCell hg1 _).setCell hg1 _).setCell hg1 _).setCell hg1 _).setCell hg1 _).setCell hg1 _).setCell hg1 _)⟩
      case measure => simp [intOf]; omega
    · obtain rfl : j = n := by omega
      clear hs hb hlt hj
      obtain ⟨xs, hx⟩ := HSR.out
      have HX : Hid (wr.ownsRow w.heap.size 56 10 (.slice a1 j c1) j xs) := hx
      have hsz := HBR.out.size
      clear hx
      go_wp2_with (at_builtin; refine wpList_append_lies _ rfl _ _ 50 rfl w.heap.size 56 i0 _ 10 80 Try.underlying50 hi hz0 hz1 hz2 rfl (by decide) _ _ _ rfl (HX.out.alloc _) ⟨wr.heap.size, 0, none⟩ 1 1 (enC ⟨0, 0, fun _ => 0⟩).toList rfl rfl (World.news_of_block (cs := enC ⟨0, 0, fun _ => 0⟩) (t := 56) (fr := (0, 0)) (heap_alloc_new wr _)) ?c2 (by decide) ?c3 ?c4 ?c5 _ rfl ?_)
      case c2 => simp [enC, Value.oneCell']
      case c3 => unfold maxLen; omega
      case c4 => omega
      case c5 => first | omega | (simp; omega)
      intro gg cap' w8 hown1 hgrow hat _
      have HB8 : Hid (Below w.heap.size w w8) := (below_alloc HBR.out _).grown hgrow (by simp; omega) (fun b hb => (own_block HX.out b hb).1)
      clear hown1 hgrow hat
      go_wp2
      go_ret
      exact ⟨by simp, HB8.out⟩
end Go.Proofs.Ytacioekmeildoaa
