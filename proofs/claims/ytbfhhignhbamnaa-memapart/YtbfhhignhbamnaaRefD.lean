/- The document's Log, and when two lists of accesses are the same. -/
import Derived.Test.YtbfhhignhbamnaaRefC
namespace Go.Proofs.Ytbfhhignhbamnaa
open Go.ChangeShapes Go.WideShapes Go.ChangeAt Go.RowKit

theorem cut_next {L : List Ac} {k q : Nat} (hq : q < L.length) (h : k ≤ q) : (L.take (q + 1)).drop k = (L.take q).drop k ++ [L[q]] := by
  rw [take_snoc L q hq, List.drop_append_of_le_length (by rw [List.length_take]; omega)]
theorem cut_none {L : List Ac} {k q : Nat} (h : q < k) : (L.take (q + 1)).drop k = [] ∧ (L.take q).drop k = [] :=
  ⟨List.drop_eq_nil_of_le (by rw [List.length_take]; omega), List.drop_eq_nil_of_le (by rw [List.length_take]; omega)⟩

set_option maxRecDepth 10000 in
set_option maxHeartbeats 1600000 in
theorem rlog_any {w : World} {base : Nat} {p : Value} {c r : Nat} {L : List Ac} {F : List Nat} (h : RefAt w base p c r L F) (hL : L.length ≤ 2199023255552) (f : Int) :
    Calls Try.prog 24 #[p, .int .i64 f] w fun e w' => ∃ v, e = .returned v ∧ w'.ownsRow w.heap.size 52 8 v (L.drop f.toNat).length (logC (L.drop f.toNat)) ∧ Below w.heap.size w w' := by
  obtain ⟨i0, hi, hz0, hz1, hz2⟩ := info_parts info_acc
  obtain ⟨M, v, h⟩ := h
  obtain rfl := h.p
  have h2 : w.cell? ⟨M, 2, none⟩ = some v := by rw [cell_at h.m]; rfl
  have hM : M < w.heap.size := heap_lt h.m
  have HOWN : Hid (w.ownsRow base 52 8 v L.length (logC L)) := h.own
  obtain ⟨va, vc, rfl⟩ := own_slice h.own
  clear h
  obtain ⟨k, hk⟩ : ∃ k : Nat, k = f.toNat := ⟨_, rfl⟩
  rw [← hk]
  generalize hn : L.length = n at *
  have HN : Hid (L.length = n) := hn
  clear hn
  have HEND : Hid ((L.take n).drop k = L.drop k) := by rw [Hid, ← HN.out, List.take_length]
  go_enter Try.func24, Try.ntmps24
  go_wp2
  go_loopw [5, 6] (fun ov iv wr => ∃ q : Nat, q ≤ n ∧ iv = .int .i64 q ∧ wr.ownsRow w.heap.size 52 8 ov ((L.take q).drop k).length (logC ((L.take q).drop k)) ∧ Below w.heap.size w wr) (fun _ iv _ => n - (intOf iv).toNat)
  case atStart => exact ⟨0, Nat.zero_le _, rfl, by simpa [logC] using World.ownsRow_nil _ _ _ _, Below.refl _ _⟩
  case round =>
    obtain ⟨q, hq, rfl, how, hb⟩ := hrel
    have HO : Hid (wr.ownsRow w.heap.size 52 8 u5 ((L.take q).drop k).length (logC ((L.take q).drop k))) := how
    have HB : Hid (Below w.heap.size w wr) := hb
    have hc2 : wr.cell? ⟨M, 2, none⟩ = some (.slice va n vc) := cell_later hb hM h2
    clear how hb
    by_cases hlt : q < n
    · have hd : decide ((q : Int) < (n : Int)) = true := by simp; omega
      by_cases hfk : f ≤ (q : Int)
      · have hkq : k ≤ q := by omega
        obtain ⟨g, cap, hform, hg1, hg2⟩ := HOWN.out.form (by omega)
        obtain ⟨rfl, _, rfl⟩ : va = some ⟨g, 0, none⟩ ∧ n = n ∧ vc = cap := by simpa using hform
        clear hform
        have hqL : q < L.length := by rw [HN.out]; exact hlt
        have hrow : Row8 wr ⟨g, q * 8, none⟩ (acC L[q]) := (own_row8 (by rw [HN.out]; exact HOWN.out) q hqL).later rfl HB.out hg2
        have HNX : Hid ((L.take (q + 1)).drop k = (L.take q).drop k ++ [L[q]]) := cut_next hqL hkq
        have hml : ((L.take q).drop k).length ≤ q := by rw [List.length_drop, List.length_take]; omega
        have hlen : (logC ((L.take q).drop k)).length = ((L.take q).drop k).length * 8 := logC_len _
        have HAP : Hid (logC ((L.take q).drop k ++ [L[q]]) = logC ((L.take q).drop k) ++ (acC L[q]).toList) := by rw [Hid, logC_app, logC_one]
        generalize L[q] = y at *
        generalize (L.take q).drop k = K at *
        obtain ⟨av, cv, rfl⟩ := own_slice HO.out
        obtain ⟨yt, yk, ⟨ya, yb, yc⟩, yo, yv, yy⟩ := y
        obtain ⟨d0, d1, d2, d3, d4, d5, d6, d7⟩ := row8_cells hrow rfl
        simp only [acC, List.getElem_toArray, List.getElem_cons_zero, List.getElem_cons_succ] at d0 d1 d2 d3 d4 d5 d6 d7
        clear hrow
        have hsz := HB.out.size
        generalize hm : K.length = m at *
        have HKM : Hid (K.length = m) := hm
        clear hm
        go_wp2_with (at_builtin; refine wpList_append_lies _ rfl _ _ 49 rfl w.heap.size 52 i0 _ 8 64 Try.underlying49 hi hz0 hz1 hz2 rfl (by decide) _ _ _ rfl (HO.out.alloc _) ⟨wr.heap.size, 0, none⟩ 1 1 [.int .i64 yt, .int .i64 yk, .int .i64 ya, .int .i64 yb, .int .i64 yc, .int .i64 yo, .int .i64 yv, .bool yy] rfl rfl ?c1 ?c2 (by decide) ?c3 ?c4 ?c5 _ rfl ?_)
        case c2 => simp [Value.oneCell']
        case c3 => unfold maxLen; omega
        case c4 => omega
        case c5 => first | omega | (simp; omega)
        intro gg cap' w3 hown1 hgrow hat _
        have HO3 : Hid (w3.ownsRow w.heap.size 52 8 (.slice (some ⟨gg, 0, none⟩) (m + 1) cap') (K ++ [Ac.mk yt yk ⟨ya, yb, yc⟩ yo yv yy]).length (logC (K ++ [Ac.mk yt yk ⟨ya, yb, yc⟩ yo yv yy]))) := by
          rw [Hid, HAP.out, List.length_append, HKM.out]; exact hown1
        have HB3 : Hid (Below w.heap.size w w3) := (below_alloc HB.out _).grown hgrow (by simp; omega) (fun b hb => (own_block HO.out b hb).1)
        clear hown1 hgrow hat d0 d1 d2 d3 d4 d5 d6 d7
        go_wp2
        go_roundw
        case rel => exact ⟨q + 1, by omega, by go_num, by rw [HNX.out]; exact HO3.out, HB3.out⟩
        case measure => simp [intOf]; omega
      · have hkq : q < k := by omega
        have HNX : Hid ((L.take (q + 1)).drop k = [] ∧ (L.take q).drop k = []) := cut_none hkq
        obtain ⟨av, cv, rfl⟩ := own_slice HO.out
        have hfd : decide (f ≤ (q : Int)) = false := by simpa using hfk
        have HO2 : Hid (wr.ownsRow w.heap.size 52 8 (.slice av ((L.take q).drop k).length cv) ((L.take (q + 1)).drop k).length (logC ((L.take (q + 1)).drop k))) := by rw [Hid, HNX.out.1, ← HNX.out.2]; exact HO.out
        generalize ((L.take q).drop k).length = m at *
        go_wp2
        go_roundw
        case rel => exact ⟨q + 1, by omega, by go_num, HO2.out, HB.out⟩
        case measure => simp [intOf]; omega
    · obtain rfl : q = n := by omega
      rw [HEND.out] at HO
      obtain ⟨av, cv, rfl⟩ := own_slice HO.out
      have HO2 : Hid (∃ m, (L.drop k).length = m ∧ wr.ownsRow w.heap.size 52 8 (.slice av m cv) m (logC (L.drop k))) := ⟨_, rfl, HO.out⟩
      obtain ⟨m, hm, ho2⟩ := HO2.out
      have HKM : Hid ((L.drop k).length = m) := hm
      have HO3 : Hid (wr.ownsRow w.heap.size 52 8 (.slice av m cv) m (logC (L.drop k))) := ho2
      clear HO HO2 ho2
      rw [hm]
      clear hm
      go_wp2
      go_ret
      exact ⟨_, rfl, by rw [HKM.out]; exact HO3.out, HB.out⟩

/-! ### lists of accesses -/
/-- A list of accesses lies behind a slice. -/
def LLst (w : World) (v : Value) (L : List Ac) : Prop := ∃ a cap, v = .slice a L.length cap ∧ L.length ≤ 2199023255552 ∧ (L = [] ∨ ∃ x, a = some x ∧ ∀ i, (h : i < L.length) → Row8 w (x.add (i * 8)) (acC L[i]))
theorem own_llst {w : World} {base : Nat} {v : Value} {L : List Ac} (h : w.ownsRow base 52 8 v L.length (logC L)) (hL : L.length ≤ 2199023255552) : LLst w v L := by
  by_cases h0 : L = []
  · obtain ⟨a, cap, rfl⟩ := own_slice h
    exact ⟨a, cap, rfl, hL, Or.inl h0⟩
  · obtain ⟨g, cap, rfl, _, _⟩ := h.form (List.length_pos_iff.2 h0)
    refine ⟨_, _, rfl, hL, Or.inr ⟨_, rfl, fun i hi => ?_⟩⟩
    have e : (⟨g, 0, none⟩ : Addr).add (i * 8) = ⟨g, i * 8, none⟩ := by unfold Addr.add; split <;> simp_all
    rw [e]
    exact own_row8 h i hi

/-- Two lists that are the same are found the same. -/
theorem accesses_same (w : World) (v u : Value) (L : List Ac) (hv : LLst w v L) (hu : LLst w u L) :
    Calls Try.prog 25 #[v, u] w fun e w' => e = .returned (.bool true) ∧ ∃ n, w' = w.drewN n := by
  obtain ⟨a, ca, rfl, hbig, hl⟩ := hv
  obtain ⟨b, cb, rfl, hbig2, hm⟩ := hu
  clear hbig2
  have HX : Hid (∀ i, (h : i < L.length) → ∃ x y, a = some x ∧ b = some y ∧ Row8 w (x.add (i * 8)) (acC L[i]) ∧ Row8 w (y.add (i * 8)) (acC L[i])) := fun i hi => by
    rcases hl with rfl | ⟨x, hx, hcx⟩
    · simp at hi
    · rcases hm with rfl | ⟨y, hy, hcy⟩
      · simp at hi
      · exact ⟨x, y, hx, hy, hcx i hi, hcy i hi⟩
  clear hl hm
  obtain ⟨n, hn⟩ : ∃ n, L.length = n := ⟨_, rfl⟩
  have HLN : Hid (L.length = n) := hn
  rw [hn] at hbig ⊢
  clear hn
  have hne : ((n : Int) != (n : Int)) = false := by simp
  go_enter Try.func25, Try.ntmps25
  go_wp2
  go_loopw [5] (fun i wr => ∃ j : Nat, j ≤ n ∧ i = .int .i64 j ∧ ∃ q, wr = w.drewN q) (fun i _ => n - (intOf i).toNat)
  case atStart => exact ⟨0, Nat.zero_le _, rfl, 0, rfl⟩
  case round =>
    obtain ⟨j, hj, rfl, hwr⟩ := hrel
    have HW : Hid (∃ q, wr = w.drewN q) := hwr
    clear hwr
    by_cases hlt : j < n
    · have hjL : j < L.length := by rw [HLN.out]; exact hlt
      obtain ⟨x, y, rfl, rfl, hrx, hry⟩ := HX.out j hjL
      have hrx' : Row8 wr (x.add (j * 8)) (acC L[j]) := by obtain ⟨q, rfl⟩ := HW.out; exact hrx
      have hry' : Row8 wr (y.add (j * 8)) (acC L[j]) := by obtain ⟨q, rfl⟩ := HW.out; exact hry
      clear hrx hry
      have hx1 : (j : Int) < (n : Int) := by omega
      have hd : decide ((j : Int) < (n : Int)) = true := by simp; omega
      generalize L[j] = z at *
      obtain ⟨yt, yk, ⟨ya, yb, yc⟩, yo, yv, yy⟩ := z
      obtain ⟨d0, d1, d2, d3, d4, d5, d6, d7⟩ := row8_cells hrx' rfl
      obtain ⟨e0, e1, e2, e3, e4, e5, e6, e7⟩ := row8_cells hry' rfl
      simp only [acC, List.getElem_toArray, List.getElem_cons_zero, List.getElem_cons_succ] at d0 d1 d2 d3 d4 d5 d6 d7 e0 e1 e2 e3 e4 e5 e6 e7
      clear hrx' hry'
      go_wp2
      go_quiet (fail)
      go_wp2
      go_roundw
      case rel => exact ⟨j + 1, by omega, by go_num, by obtain ⟨q, rfl⟩ := HW.out; exact ⟨_, World.drewN_drewN _ _ _⟩⟩
      case measure => simp [intOf]; omega
    · obtain rfl : j = n := by omega
      go_wp2
      go_ret
      exact ⟨rfl, HW.out⟩
end Go.Proofs.Ytbfhhignhbamnaa
