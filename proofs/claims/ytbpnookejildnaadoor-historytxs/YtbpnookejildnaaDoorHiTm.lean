/- The document's Timely. -/
import Derived.Test.YtbpnookejildnaaDoorHiZ
import Derived.Test.YtbpnookejildnaaDoorHiTk
namespace Go.Proofs.YtbpnookejildnaaDoor.Hi
open Go.ChangeShapes Go.WideShapes Go.ChangeAt Go.RowKit
set_option linter.unusedVariables false
set_option maxRecDepth 100000

theorem t6s_get (l : List Tr) (i j : Nat) (hi : i < l.length) (hj : j < 6) : (t6s l)[i * 6 + j]? = (t6 (nt l i))[j]? := by
  induction l generalizing i with
  | nil => simp at hi
  | cons e l ih =>
    show (t6 e ++ t6s l)[i * 6 + j]? = _
    have h6 : (t6 e).length = 6 := rfl
    cases i with
    | zero => rw [List.getElem?_append_left (by omega)]; simp [nt]
    | succ i =>
      rw [List.getElem?_append_right (by omega), h6, show (i + 1) * 6 + j - 6 = i * 6 + j by omega, ih i (by simpa using hi)]
      simp [nt]
/-- One of the transactions, as a walk asks for its cells. -/
theorem row6 {w : World} {B : Nat} {sa : Option Addr} {cap n : Nat} {L : List Tr} (h : w.ownsRow B 57 6 (.slice sa n cap) n (t6s L)) (hn : L.length = n) {q : Nat} (hq : q < n) :
    ∃ g, sa = some ⟨g, 0, none⟩ ∧ B ≤ g ∧ g < w.heap.size ∧ ∀ j, j < 6 → w.cell? ⟨g, q * 6 + j, none⟩ = (t6 (nt L q))[j]? := by
  have h0 := h
  rcases h.2 with ⟨_, e⟩ | ⟨g, cap', cur, e, hb, hg, _⟩
  · omega
  · simp at e
    refine ⟨g, e.1, hb, heap_lt hg, fun j hj => ?_⟩
    rw [e.1] at h0
    have hlt : q * 6 + j < (t6s L).length := by rw [t6s_len, hn]; omega
    rw [← t6s_get L q j (by omega) hj, List.getElem?_eq_getElem hlt]
    exact own_cells h0 (q * 6 + j) _ (List.getElem?_eq_getElem hlt)
def allMay (H : List Ev) : Bool := (List.range H.length).all (mayD H)
theorem allMay_yes {H : List Ev} (h : ∀ i, i < H.length → mayD H i = true) : allMay H = true := by
  unfold allMay
  rw [List.all_eq_true]
  intro i hi
  exact h i (by simpa using hi)
theorem allMay_no {H : List Ev} {i : Nat} (hi : i < H.length) (h : mayD H i = false) : allMay H = false := by
  unfold allMay
  rw [List.all_eq_false]
  exact ⟨i, by simpa using hi, by simp [h]⟩
def lateAt (l : List Tr) (i k : Nat) : Prop := 0 ≤ (nt l i).en ∧ (nt l i).en < (nt l k).bg
def rtimD (l : List Tr) (m : Nat) : Prop := ∀ i, i < m → ∀ k, k < i → ¬ lateAt l i k
/-- What the document's Timely tells. -/
inductive RTimQ (H : List Ev) (o : List Int) : Ending → Prop
  | bad : allMay H = false → RTimQ H o (.returned (.tuple #[.bool false, .int .i64 14]))
  | arg : allMay H = true → okOrd (cntD H H.length 7 (-1)) o = false → RTimQ H o (.returned (.tuple #[.bool false, .int .i64 1]))
  | no (i k : Nat) : allMay H = true → okOrd (cntD H H.length 7 (-1)) o = true → i < o.length → k < i → lateAt (pick (txsD H (cntD H H.length 7 (-1))) o) i k → RTimQ H o (.returned (.tuple #[.bool false, .int .i64 0]))
  | yes : allMay H = true → okOrd (cntD H H.length 7 (-1)) o = true → rtimD (pick (txsD H (cntD H H.length 7 (-1))) o) o.length → RTimQ H o (.returned (.tuple #[.bool true, .int .i64 0]))
theorem pick_nt {l : List Tr} {o : List Int} {i q : Nat} (hi : i < o.length) (hq : ni o i = (q : Int)) : nt (pick l o) i = nt l q := by
  unfold nt pick
  simp only [List.getD_eq_getElem?_getD, List.getElem?_map, List.getElem?_eq_getElem hi, Option.map_some, Option.getD_some]
  have : o[i] = (q : Int) := by rw [← hq]; simp [ni, hi]
  rw [this]
  simp [nt]
theorem ok_at {m : Nat} {o : List Int} (h : okOrd m o = true) {i : Nat} (hi : i < o.length) : ∃ q : Nat, ni o i = (q : Int) ∧ q < m := by
  unfold okOrd at h
  simp only [Bool.and_eq_true, decide_eq_true_eq, List.all_eq_true] at h
  have := h.1.2 _ (ni_mem hi)
  exact ⟨(ni o i).toNat, by omega, by omega⟩
theorem below_two {B : Nat} {w wr : World} (h : Below B w wr) (hB : B ≤ wr.heap.size) (o1 o2 : Obj) : Below B w ((wr.alloc o1).alloc o2) :=
  h.trans (Keep.below (((Keep.refl [] wr).alloc o1).alloc o2) hB (fun b hb => by simp at hb))
set_option maxHeartbeats 1600000 in
theorem rtimely_any {w : World} {v vo : Value} {H : List Ev} {o : List Int} (h : EvL w v H) (ho : IL w vo o) : Calls Tryd.prog 15 #[v, vo] w fun e w' => RTimQ H o e ∧ Below w.heap.size w w' := by
  have HIO : Hid (IL w vo o) := ho
  have HTX : Hid (Calls Tryd.prog 9 #[v] w (RTxsQ w H)) := rtxs_any h
  have HTK : Hid (∀ (wx : World) (m : Nat), m ≤ 925925926000 → Below w.heap.size w wx → Calls Tryd.prog 34 #[vo, .int .i64 (m : Int)] wx fun e w' => e = .returned (.bool (okOrd m o)) ∧ w' = wx) := fun wx m hm hb => takes_any (ho.later hb (Nat.le_refl _)) hm
  have HNM : Hid (cntD H H.length 7 (-1) ≤ 925925926000) := Nat.le_trans (cnt_le _ _ _ _) h.len
  obtain ⟨a, cap, rfl, hl0, hcap, hcs, hca, hl⟩ := ho
  have HLO : Hid (o.length = 0 ∨ ∃ x, a = some x ∧ x.block < w.heap.size ∧ ∀ i, i < o.length → w.cell? (x.add i) = some (.int .i64 (ni o i))) := hl
  have HOM : Hid (o.length ≤ 17592186044416) := hl0
  clear h hl hl0 hcap hcs hca
  unfold RTxsQ at HTX
  go_enter Tryd.func15, Tryd.ntmps15
  go_wp2_with fail
  refine HTX.out.mono ?_
  rintro e w1 ⟨hy, hb1⟩
  have HB1 : Hid (Below w.heap.size w w1) := hb1
  rcases hy with ⟨hall, lv, rfl, hown⟩ | ⟨i, hi, _, hno, rfl⟩
  case inr =>
    have HAM : Hid (allMay H = false) := allMay_no hi hno
    clear hb1 hi hno HTX HTK
    go_wp2_with fail
    go_ret2
    exact ⟨.bad HAM.out, HB1.out⟩
  have HAM : Hid (allMay H = true) := allMay_yes hall
  have HOWN : Hid (w1.ownsRow w.heap.size 57 6 lv (cntD H H.length 7 (-1)) (t6s (txsD H (cntD H H.length 7 (-1))))) := hown
  have HLN : Hid ((txsD H (cntD H H.length 7 (-1))).length = cntD H H.length 7 (-1)) := txsD_len _ _
  obtain ⟨la, lc, rfl⟩ := own_slice hown
  clear hb1 hall hown HTX
  have HNE : Hid (cntD H H.length 7 (-1) = cntD H H.length 7 (-1)) := rfl
  generalize hN : cntD H H.length 7 (-1) = N at *
  have HN : Hid (cntD H H.length 7 (-1) = N) := hN
  clear hN HNE
  go_wp2_with fail
  refine (HTK.out _ _ HNM.out HB1.out).mono ?_
  rintro e w2 ⟨rfl, rfl⟩
  cases hok : okOrd N o with
  | false =>
    have HOK : Hid (okOrd N o = false) := hok
    clear hok
    go_wp2_with fail
    go_ret2
    exact ⟨.arg HAM.out (by rw [HN.out]; exact HOK.out), HB1.out⟩
  | true =>
    have HOK : Hid (okOrd N o = true) := hok
    have HOL : Hid (o.length = N) := ((okOrd_takes N o).1 hok).1
    clear hok HTK
    have HBX : Hid (o.length ≤ 925925926000) := by rw [Hid, HOL.out]; exact HNM.out
    have HPK : Hid (pick (txsD H N) o = pick (txsD H N) o) := rfl
    have HNO : Hid (∀ i k, i < o.length → k < i → lateAt (pick (txsD H N) o) i k → RTimQ H o (.returned (.tuple #[.bool false, .int .i64 0]))) := fun i k h1 h2 h3 => .no i k HAM.out (by rw [HN.out]; exact HOK.out) h1 h2 (by rw [HN.out]; exact h3)
    have HYES : Hid (rtimD (pick (txsD H N) o) o.length → RTimQ H o (.returned (.tuple #[.bool true, .int .i64 0]))) := fun h1 => .yes HAM.out (by rw [HN.out]; exact HOK.out) (by rw [HN.out]; exact h1)
    have HPN : Hid (∀ i, i < o.length → ∃ q : Nat, ni o i = (q : Int) ∧ q < N ∧ nt (pick (txsD H N) o) i = nt (txsD H N) q) := fun i hi => by
      obtain ⟨q, h1, h2⟩ := ok_at HOK.out hi
      exact ⟨q, h1, h2, pick_nt hi h1⟩
    clear HPK HIO
    generalize txsD H N = L at *
    generalize pick L o = p at *
    go_wp2_with fail
    go_loopw [10] (fun iv wr => ∃ i : Nat, i ≤ o.length ∧ iv = .int .i64 (i : Int) ∧ Hid (∀ i', i' < i → ∀ k, k < i' → ¬ lateAt p i' k) ∧ Hid (Below w2.heap.size w2 wr)) (fun iv _ => o.length - (intOf iv).toNat)
    case atStart => exact ⟨0, Nat.zero_le _, rfl, fun i hi => by omega, Below.refl _ _⟩
    case round =>
      obtain ⟨i, hi, rfl, HI, HB⟩ := hrel
      by_cases hlt : i < o.length
      · have hid : decide ((i : Int) < (o.length : Int)) = true := by simp; omega
        have hwi : Hid (wrap64 ((i : Int) + 1) = (i : Int) + 1) := inc_cast HBX.out (Nat.le_of_lt hlt)
        have HMI : Hid (o.length - (i + 1) < o.length - i) := by rw [Hid]; omega
        have HIL : Hid (i < o.length) := hlt
        have hil : (i : Int) < (o.length : Int) := by omega
        obtain ⟨x, rfl, hxb, hc⟩ := HLO.out.resolve_left (by omega)
        obtain ⟨q, hq1, hq2, hq3⟩ := HPN.out i hlt
        have hql : (q : Int) < (N : Int) := by omega
        have HQ3 : Hid (nt p i = nt L q) := hq3
        have HQ2 : Hid (q < N) := hq2
        have HQ1 : Hid (ni o i = (q : Int)) := hq1
        clear hlt hi hq1 hq2 hq3
        go_wp2_with fail
        go_loopw [11] (fun kv wr => ∃ k : Nat, k ≤ i ∧ kv = .int .i64 (k : Int) ∧ Hid (∀ k', k' < k → ¬ lateAt p i k') ∧ Hid (Below w2.heap.size w2 wr)) (fun kv _ => i - (intOf kv).toNat)
        case atStart => exact ⟨0, Nat.zero_le _, rfl, fun k hk => by omega, HB.out⟩
        case round =>
          obtain ⟨k, hk, rfl, HK, HB⟩ := hrel
          by_cases hlt : k < i
          · have hkd : decide ((k : Int) < (i : Int)) = true := by simp; omega
            have hwk : Hid (wrap64 ((k : Int) + 1) = (k : Int) + 1) := inc_cast HBX.out (by have := HIL.out; omega)
            have HMK : Hid (i - (k + 1) < i - k) := by rw [Hid]; omega
            have HKL : Hid (k < i) := hlt
            have hkl : (k : Int) < (o.length : Int) := by have := HIL.out; omega
            obtain ⟨r, hr1, hr2, hr3⟩ := HPN.out k (by have := HIL.out; omega)
            have hrl : (r : Int) < (N : Int) := by omega
            have hx2 : x.block < w2.heap.size := Nat.lt_of_lt_of_le hxb HB1.out.size
            have HBW : Hid (Below w.heap.size w wr) := HB1.out.trans (HB.out.mono HB1.out.size)
            have ci : wr.cell? (x.add i) = some (.int .i64 (q : Int)) := by rw [HBW.out.cell (by rw [add_block]; exact hxb), hc i HIL.out, HQ1.out]
            have ck : wr.cell? (x.add k) = some (.int .i64 (r : Int)) := by rw [HBW.out.cell (by rw [add_block]; exact hxb), hc k (by have := HIL.out; omega), hr1]
            have hxk : (x.add k).block < wr.heap.size := by rw [add_block]; exact Nat.lt_of_lt_of_le hxb HBW.out.size
            have hxi : (x.add i).block < wr.heap.size := by rw [add_block]; exact Nat.lt_of_lt_of_le hxb HBW.out.size
            obtain ⟨g, rfl, hgB, hgl, hg⟩ := row6 HOWN.out HLN.out HQ2.out
            obtain ⟨g', hgg, _, _, hg'⟩ := row6 HOWN.out HLN.out hr2
            simp at hgg
            subst hgg
            have hgw : ∀ j, wr.cell? ⟨g, j, none⟩ = w2.cell? ⟨g, j, none⟩ := fun j => HB.out.cell hgl
            have hgs : g < wr.heap.size := Nat.lt_of_lt_of_le hgl HB.out.size
            have a0 : wr.cell? ⟨g, q * 6, none⟩ = some (.int .i64 (nt p i).th) := by rw [HQ3.out, hgw]; exact hg 0 (by decide)
            have a1 : wr.cell? ⟨g, q * 6 + 1, none⟩ = some (.int .i64 (nt p i).bg) := by rw [HQ3.out, hgw]; exact hg 1 (by decide)
            have a2 : wr.cell? ⟨g, q * 6 + 2, none⟩ = some (.int .i64 (nt p i).en) := by rw [HQ3.out, hgw]; exact hg 2 (by decide)
            have a3 : wr.cell? ⟨g, q * 6 + 3, none⟩ = some (.int .i64 (nt p i).st) := by rw [HQ3.out, hgw]; exact hg 3 (by decide)
            have a4 : wr.cell? ⟨g, q * 6 + 4, none⟩ = some (.int .i64 (nt p i).sn) := by rw [HQ3.out, hgw]; exact hg 4 (by decide)
            have a5 : wr.cell? ⟨g, q * 6 + 5, none⟩ = some (.int .i64 (nt p i).er) := by rw [HQ3.out, hgw]; exact hg 5 (by decide)
            have b0 : wr.cell? ⟨g, r * 6, none⟩ = some (.int .i64 (nt p k).th) := by rw [hr3, hgw]; exact hg' 0 (by decide)
            have b1 : wr.cell? ⟨g, r * 6 + 1, none⟩ = some (.int .i64 (nt p k).bg) := by rw [hr3, hgw]; exact hg' 1 (by decide)
            have b2 : wr.cell? ⟨g, r * 6 + 2, none⟩ = some (.int .i64 (nt p k).en) := by rw [hr3, hgw]; exact hg' 2 (by decide)
            have b3 : wr.cell? ⟨g, r * 6 + 3, none⟩ = some (.int .i64 (nt p k).st) := by rw [hr3, hgw]; exact hg' 3 (by decide)
            have b4 : wr.cell? ⟨g, r * 6 + 4, none⟩ = some (.int .i64 (nt p k).sn) := by rw [hr3, hgw]; exact hg' 4 (by decide)
            have b5 : wr.cell? ⟨g, r * 6 + 5, none⟩ = some (.int .i64 (nt p k).er) := by rw [hr3, hgw]; exact hg' 5 (by decide)
            have HLT : Hid (lateAt p i k ↔ 0 ≤ (nt p i).en ∧ (nt p i).en < (nt p k).bg) := Iff.rfl
            have HZ2 : Hid (w2.heap.size ≤ wr.heap.size) := HB.out.size
            clear hlt hk hr1 hr2 hr3 hg hg' hgw
            generalize nt p i = A at *
            generalize nt p k = K at *
            obtain ⟨ath, abg, aen, ast, asn, aer, asg, aac⟩ := A
            obtain ⟨bth, bbg, ben, bst, bsn, ber, bsg, bac⟩ := K
            dsimp only at *
            by_cases h1 : 0 ≤ aen
            · have hd1 : decide (0 ≤ aen) = true := by simpa using h1
              by_cases h2 : aen < bbg
              · have hd2 : decide (aen < bbg) = true := by simpa using h2
                have HLY := HNO.out i k HIL.out HKL.out (HLT.out.2 ⟨h1, h2⟩)
                have HLY2 : Hid _ := HLY
                clear HLY h1 h2
                go_wp2_with fail
                go_ret2
                exact ⟨HLY2.out, below_two HBW.out (Nat.le_trans HB1.out.size HZ2.out) _ _⟩
              · have hd2 : decide (aen < bbg) = false := by simpa using h2
                have HNN : Hid (¬ lateAt p i k) := fun h => h2 (HLT.out.1 h).2
                clear h1 h2
                go_wp2_with fail
                go_roundw
                case rel => exact ⟨k + 1, HKL.out, by first | (rw [hwk.out]; go_num) | go_num, fun k' hk' => by
                  by_cases e : k' = k
                  · subst e; exact HNN.out
                  · exact HK.out k' (by omega), below_two HB.out HZ2.out _ _⟩
                case measure => first | (rw [hwk.out]; simpa [intOf] using HMK.out) | (simpa [intOf] using HMK.out)
            · have hd1 : decide (0 ≤ aen) = false := by simpa using h1
              have HNN : Hid (¬ lateAt p i k) := fun h => h1 (HLT.out.1 h).1
              clear h1
              go_wp2_with fail
              go_roundw
              case rel => exact ⟨k + 1, HKL.out, by first | (rw [hwk.out]; go_num) | go_num, fun k' hk' => by
                by_cases e : k' = k
                · subst e; exact HNN.out
                · exact HK.out k' (by omega), below_two HB.out HZ2.out _ _⟩
              case measure => first | (rw [hwk.out]; simpa [intOf] using HMK.out) | (simpa [intOf] using HMK.out)
          · obtain rfl : k = i := by omega
            go_wp2_with fail
            go_roundw
            case rel => exact ⟨k + 1, HIL.out, by first | (rw [hwi.out]; go_num) | go_num, fun i' hi' => by
              by_cases e : i' = k
              · subst e; exact HK.out
              · exact HI.out i' (by omega), HB.out⟩
            case measure => first | (rw [hwi.out]; simpa [intOf] using HMI.out) | (simpa [intOf] using HMI.out)
      · obtain rfl : i = o.length := by omega
        go_wp2_with fail
        go_ret2
        exact ⟨HYES.out HI.out, HB1.out.trans (HB.out.mono HB1.out.size)⟩
end Go.Proofs.YtbpnookejildnaaDoor.Hi
