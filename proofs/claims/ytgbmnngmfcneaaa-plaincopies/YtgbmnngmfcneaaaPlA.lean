/- Rising lists are searched: the program's find. -/
import Derived.Test.YtgbmnngmfcneaaaPlR
import Derived.RegionTactic
import Derived.BigRegion
import Derived.Deep.RegionHeld3
namespace Go.Proofs.Ytgbmnngmfcneaaa.Pl
open Go.ChangeShapes Go.WideShapes Go.ChangeAt Go.RowKit
attribute [local go_sem ↓] Go.wp_at_zero Go.wp_at_succ

theorem keyi_any (w : World) (k : Int) : Calls Try.prog 83 #[.int .i64 k] w fun e w' => e = .returned (.int .i64 k) ∧ w' = w := by
  go_enter Try.func83, Try.ntmps83
  go_wp2
  go_ret
  exact ⟨rfl, rfl⟩
theorem keyp_any (w : World) (k v : Int) : Calls Try.prog 79 #[.agg #[.int .i64 k, .int .i64 v]] w fun e w' => e = .returned (.int .i64 k) ∧ Below w.heap.size w w' := by
  go_enter Try.func79, Try.ntmps79
  go_wp2
  go_ret
  exact ⟨rfl, below_a1 _ _⟩
theorem mid_num {lo hi : Nat} (h : lo < hi) (hh : hi ≤ 64) : ∃ m : Nat, lo ≤ m ∧ m < hi ∧ wrap64 (((lo : Int) + (hi : Int)).tdiv 2) = (m : Int) ∧ wrap64 ((lo : Int) + (hi : Int)) = (lo : Int) + (hi : Int) ∧ wrap64 ((m : Int) + 1) = ((m + 1 : Nat) : Int) := by
  refine ⟨(lo + hi) / 2, by omega, by omega, ?_, ?_, ?_⟩
  · have : ((lo : Int) + (hi : Int)).tdiv 2 = (((lo + hi) / 2 : Nat) : Int) := by
      rw [show (lo : Int) + (hi : Int) = ((lo + hi : Nat) : Int) by omega]
      rfl
    rw [this]
    unfold wrap64
    omega
  · unfold wrap64; omega
  · unfold wrap64; omega
theorem findi_any {w : World} {a : Option Addr} {cap : Nat} {l : List Int} (k : Int) (hl : Nl w (.slice a l.length cap) l) (hr : Rise l) (hn : l.length ≤ 64) : Calls Try.prog 82 #[.slice a l.length cap, .func (.func 83) #[] #[], .int .i64 k] w fun e w' => e = .returned (.tuple #[.int .i64 (lb l k : Int), .bool (thB l k)]) ∧ Below w.heap.size w w' := by
  have HK : Hid (∀ (w : World) (k : Int), Calls Try.prog 83 #[.int .i64 k] w fun e w' => e = .returned (.int .i64 k) ∧ w' = w) := fun w k => keyi_any w k
  obtain ⟨_, _, hc⟩ := nl_cells hl
  have HC : Hid (∀ i, i < l.length → ∃ x, a = some x ∧ x.block < w.heap.size ∧ w.cell? (x.add i) = some (.int .i64 (nth l i))) := hc
  have HR : Hid (Rise l) := hr
  have HN : Hid (l.length ≤ 64) := hn
  clear hc hl hr hn
  go_enter Try.func82, Try.ntmps82
  go_wp2_with fail
  go_loopw [8, 9] (fun lv hv wr => ∃ lo hi : Nat, lo ≤ hi ∧ hi ≤ l.length ∧ lv = .int .i64 (lo : Int) ∧ hv = .int .i64 (hi : Int) ∧ Hid (∀ j, j < lo → nth l j < k) ∧ Hid (∀ j, hi ≤ j → j < l.length → k ≤ nth l j) ∧ Below w.heap.size w wr) (fun lv hv _ => (intOf hv).toNat - (intOf lv).toNat)
  case atStart => exact ⟨0, l.length, Nat.zero_le _, Nat.le_refl _, rfl, rfl, fun j hj => by omega, fun j h1 h2 => by omega, Below.refl _ _⟩
  case round =>
    obtain ⟨lo, hi, hlh, hhn, rfl, rfl, HL, HH, hbel⟩ := hrel
    have HB : Hid (Below w.heap.size w wr) := hbel
    have HX : Hid (lo ≤ hi) := hlh
    have HY : Hid (hi ≤ l.length) := hhn
    clear hbel hlh
    by_cases hlt : lo < hi
    · have hld : decide ((lo : Int) < (hi : Int)) = true := by simp; omega
      obtain ⟨m, hm1, hm2, hm3, hm4, hm5⟩ := mid_num hlt (Nat.le_trans HY.out HN.out)
      have hml : m < l.length := by omega
      clear hhn
      obtain ⟨x, rfl, hxb, hx⟩ := HC.out m hml
      have z1 : wr.cell? (x.add m) = some (.int .i64 (nth l m)) := cell_later HB.out (by rw [add_block]; exact hxb) hx
      have HM : Hid (lo ≤ m ∧ m < hi) := ⟨hm1, hm2⟩
      clear hx hxb HC hm1 hm2 hm5
      by_cases hk : nth l m < k
      · have HK2 : Hid (∀ j, j < m + 1 → nth l j < k) := fun j hj => by
          by_cases e : j = m
          · rw [e]; exact hk
          · have := HR.out j m (by omega) hml
            omega
        generalize nth l m = z at *
        go_wp2_with fail
        refine (HK.out _ _).mono ?_
        rintro e w2 ⟨rfl, rfl⟩
        go_wp2_with fail
        go_roundw
        case rel => exact ⟨m + 1, hi, by have := HM.out; omega, HY.out, by go_num, rfl, HK2.out, HH.out, HB.out⟩
        case measure => have := HM.out; simp [intOf]; omega
      · have HK2 : Hid (∀ j, m ≤ j → j < l.length → k ≤ nth l j) := fun j h1 h2 => by
          by_cases e : j = m
          · rw [e]; omega
          · have := HR.out m j (by omega) h2
            omega
        generalize nth l m = z at *
        go_wp2_with fail
        refine (HK.out _ _).mono ?_
        rintro e w2 ⟨rfl, rfl⟩
        go_wp2_with fail
        go_roundw
        case rel => exact ⟨lo, m, HM.out.1, by have := HM.out; have := HY.out; omega, rfl, rfl, HL.out, HK2.out, HB.out⟩
        case measure => have := HM.out; simp [intOf]; omega
    · obtain rfl : lo = hi := by have := HX.out; omega
      have hld : decide ((lo : Int) < (lo : Int)) = false := by simp
      have HE : Hid (lb l k = lo) := lb_is HY.out HL.out (fun h => HH.out lo (Nat.le_refl _) h)
      have HT : Hid (thB l k = decide (lo < l.length ∧ nth l lo = k)) := by rw [Hid, thB, HE.out]
      by_cases h1 : lo < l.length
      · have hl1 : decide ((lo : Int) < (l.length : Int)) = true := by simp; omega
        obtain ⟨x, rfl, hxb, hx⟩ := HC.out lo h1
        have z1 : wr.cell? (x.add lo) = some (.int .i64 (nth l lo)) := cell_later HB.out (by rw [add_block]; exact hxb) hx
        have HT2 : Hid (thB l k = (nth l lo == k)) := by
          rw [Hid, HT.out, Bool.eq_iff_iff]
          simp [h1]
        clear hx hxb HC HT
        generalize nth l lo = z at *
        go_wp2_with fail
        refine (HK.out _ _).mono ?_
        rintro e w2 ⟨rfl, rfl⟩
        go_wp2_with fail
        go_ret2
        exact ⟨by rw [HT2.out, HE.out]; rfl, HB.out⟩
      · have hl1 : decide ((lo : Int) < (l.length : Int)) = false := by simp; omega
        have HT2 : Hid (thB l k = false) := by
          rw [Hid, HT.out]
          simp [h1]
        go_wp2_with fail
        go_ret2
        exact ⟨by rw [HT2.out, HE.out]; rfl, HB.out⟩
/-- A list of pairs lies behind a slice. -/
def Pn (w : World) (v : Value) (T : List (Int × Int)) : Prop := ∃ a cap, v = .slice a T.length cap ∧ (T.length = 0 ∨ ∃ x, a = some x ∧ x.block < w.heap.size ∧ ∀ i, i < T.length → w.cell? (x.add (i * 2)) = some (.int .i64 (nthP T i).1) ∧ w.cell? ⟨(x.add (i * 2)).block, (x.add (i * 2)).off + 1, none⟩ = some (.int .i64 (nthP T i).2))
theorem Pn.of_own {w : World} {B : Nat} {v : Value} {T : List (Int × Int)} (h : w.ownsRow B 52 2 v T.length (prC T)) : Pn w v T := by
  have hc := h
  rcases h.2 with ⟨rfl, h0⟩ | ⟨g, cap, cur, rfl, hg, hb, _⟩
  · exact ⟨none, 0, by rw [h0], Or.inl h0⟩
  · refine ⟨some ⟨g, 0, none⟩, cap, rfl, Or.inr ⟨⟨g, 0, none⟩, rfl, heap_lt hb, fun i hi => ?_⟩⟩
    obtain ⟨h1, h2⟩ := prC_get T i hi
    have e : (⟨g, 0, none⟩ : Addr).add (i * 2) = ⟨g, i * 2, none⟩ := by rw [add_at]; simp
    rw [e]
    exact ⟨own_cells hc _ _ h1, own_cells hc _ _ h2⟩
theorem pn_cells {w : World} {a : Option Addr} {n cap : Nat} {T : List (Int × Int)} (h : Pn w (.slice a n cap) T) : ∀ i, i < T.length → ∃ x, a = some x ∧ x.block < w.heap.size ∧ w.cell? (x.add (i * 2)) = some (.int .i64 (nth (keysP T) i)) ∧ w.cell? ⟨(x.add (i * 2)).block, (x.add (i * 2)).off + 1, none⟩ = some (.int .i64 (nthP T i).2) := by
  obtain ⟨a', cap', hv, hl⟩ := h
  injection hv with h1 h2 h3
  subst h1
  intro i hi
  obtain ⟨x, hx, hxb, hc⟩ := hl.resolve_left (by omega)
  rw [keys_nth]
  exact ⟨x, hx, hxb, hc i hi⟩
theorem lb_isP {T : List (Int × Int)} {k : Int} {i : Nat} (hi : i ≤ T.length) (h1 : ∀ j, j < i → nth (keysP T) j < k) (h2 : i < T.length → k ≤ nth (keysP T) i) : lb (keysP T) k = i := lb_is (by rwa [keys_len]) h1 (by rwa [keys_len])
theorem findp_any {w : World} {a : Option Addr} {cap : Nat} {T : List (Int × Int)} (k : Int) (hl : Pn w (.slice a T.length cap) T) (hr : Rise (keysP T)) (hn : T.length ≤ 64) : Calls Try.prog 78 #[.slice a T.length cap, .func (.func 79) #[] #[], .int .i64 k] w fun e w' => e = .returned (.tuple #[.int .i64 (lb (keysP T) k : Int), .bool (thB (keysP T) k)]) ∧ Below w.heap.size w w' := by
  have HK : Hid (∀ (w : World) (k v : Int), Calls Try.prog 79 #[.agg #[.int .i64 k, .int .i64 v]] w fun e w' => e = .returned (.int .i64 k) ∧ Below w.heap.size w w') := fun w k v => keyp_any w k v
  have hc := pn_cells hl
  have hbig : T.length ≤ 17592186044416 := by omega
  have HC : Hid (∀ i, i < T.length → ∃ x, a = some x ∧ x.block < w.heap.size ∧ w.cell? (x.add (i * 2)) = some (.int .i64 (nth (keysP T) i)) ∧ w.cell? ⟨(x.add (i * 2)).block, (x.add (i * 2)).off + 1, none⟩ = some (.int .i64 (nthP T i).2)) := hc
  have HR : Hid (Rise (keysP T)) := hr
  have HN : Hid (T.length ≤ 64) := hn
  clear hc hl hr hn
  go_enter Try.func78, Try.ntmps78
  go_wp2_with fail
  go_loopw [8, 9] (fun lv hv wr => ∃ lo hi : Nat, lo ≤ hi ∧ hi ≤ T.length ∧ lv = .int .i64 (lo : Int) ∧ hv = .int .i64 (hi : Int) ∧ Hid (∀ j, j < lo → nth (keysP T) j < k) ∧ Hid (∀ j, hi ≤ j → j < T.length → k ≤ nth (keysP T) j) ∧ Below w.heap.size w wr) (fun lv hv _ => (intOf hv).toNat - (intOf lv).toNat)
  case atStart => exact ⟨0, T.length, Nat.zero_le _, Nat.le_refl _, rfl, rfl, fun j hj => by omega, fun j h1 h2 => by omega, Below.refl _ _⟩
  case round =>
    obtain ⟨lo, hi, hlh, hhn, rfl, rfl, HL, HH, hbel⟩ := hrel
    have HB : Hid (Below w.heap.size w wr) := hbel
    have HX : Hid (lo ≤ hi) := hlh
    have HY : Hid (hi ≤ T.length) := hhn
    clear hbel hlh
    by_cases hlt : lo < hi
    · have hld : decide ((lo : Int) < (hi : Int)) = true := by simp; omega
      obtain ⟨m, hm1, hm2, hm3, hm4, hm5⟩ := mid_num hlt (Nat.le_trans HY.out HN.out)
      have hml : m < T.length := by omega
      clear hhn
      obtain ⟨x, rfl, hxb, hx, hy⟩ := HC.out m hml
      have z1 : wr.cell? (x.add (m * 2)) = some (.int .i64 (nth (keysP T) m)) := cell_later HB.out (by rw [add_block]; exact hxb) hx
      have z2 : wr.cell? ⟨(x.add (m * 2)).block, (x.add (m * 2)).off + 1, none⟩ = some (.int .i64 (nthP T m).2) := cell_later HB.out (a := ⟨(x.add (m * 2)).block, (x.add (m * 2)).off + 1, none⟩) (show (x.add (m * 2)).block < _ by rw [add_block]; exact hxb) hy
      have HM : Hid (lo ≤ m ∧ m < hi) := ⟨hm1, hm2⟩
      clear hx hy hxb HC hm1 hm2 hm5
      by_cases hk : nth (keysP T) m < k
      · have HK2 : Hid (∀ j, j < m + 1 → nth (keysP T) j < k) := fun j hj => by
          by_cases e : j = m
          · rw [e]; exact hk
          · have := HR.out j m (by omega) (by rw [keys_len]; exact hml)
            omega
        generalize nth (keysP T) m = z at *
        generalize (nthP T m).2 = zv at *
        go_wp2_with fail
        refine (HK.out _ _ _).mono ?_
        rintro e w2 ⟨rfl, hb2⟩
        have HB2 : Hid (Below w.heap.size w w2) := below_then HB.out hb2
        clear hb2
        go_wp2_with fail
        go_roundw
        case rel => exact ⟨m + 1, hi, by have := HM.out; omega, HY.out, by go_num, rfl, HK2.out, HH.out, HB2.out⟩
        case measure => have := HM.out; simp [intOf]; omega
      · have HK2 : Hid (∀ j, m ≤ j → j < T.length → k ≤ nth (keysP T) j) := fun j h1 h2 => by
          by_cases e : j = m
          · rw [e]; omega
          · have := HR.out m j (by omega) (by rw [keys_len]; exact h2)
            omega
        generalize nth (keysP T) m = z at *
        generalize (nthP T m).2 = zv at *
        go_wp2_with fail
        refine (HK.out _ _ _).mono ?_
        rintro e w2 ⟨rfl, hb2⟩
        have HB2 : Hid (Below w.heap.size w w2) := below_then HB.out hb2
        clear hb2
        go_wp2_with fail
        go_roundw
        case rel => exact ⟨lo, m, HM.out.1, by have := HM.out; have := HY.out; omega, rfl, rfl, HL.out, HK2.out, HB2.out⟩
        case measure => have := HM.out; simp [intOf]; omega
    · obtain rfl : lo = hi := by have := HX.out; omega
      have hld : decide ((lo : Int) < (lo : Int)) = false := by simp
      have HE : Hid (lb (keysP T) k = lo) := lb_isP HY.out HL.out (fun h => HH.out lo (Nat.le_refl _) h)
      have HT : Hid (thB (keysP T) k = decide (lo < T.length ∧ nth (keysP T) lo = k)) := by rw [Hid, thB, HE.out, keys_len]
      by_cases h1 : lo < T.length
      · have hl1 : decide ((lo : Int) < (T.length : Int)) = true := by simp; omega
        obtain ⟨x, rfl, hxb, hx, hy⟩ := HC.out lo h1
        have z1 : wr.cell? (x.add (lo * 2)) = some (.int .i64 (nth (keysP T) lo)) := cell_later HB.out (by rw [add_block]; exact hxb) hx
        have z2 : wr.cell? ⟨(x.add (lo * 2)).block, (x.add (lo * 2)).off + 1, none⟩ = some (.int .i64 (nthP T lo).2) := cell_later HB.out (a := ⟨(x.add (lo * 2)).block, (x.add (lo * 2)).off + 1, none⟩) (show (x.add (lo * 2)).block < _ by rw [add_block]; exact hxb) hy
        have HT2 : Hid (thB (keysP T) k = (nth (keysP T) lo == k)) := by
          rw [Hid, HT.out, Bool.eq_iff_iff]
          simp [h1]
        clear hx hy hxb HC HT
        generalize nth (keysP T) lo = z at *
        generalize (nthP T lo).2 = zv at *
        go_wp2_with fail
        refine (HK.out _ _ _).mono ?_
        rintro e w2 ⟨rfl, hb2⟩
        have HB2 : Hid (Below w.heap.size w w2) := below_then HB.out hb2
        clear hb2
        go_wp2_with fail
        go_ret2
        exact ⟨by rw [HT2.out, HE.out]; rfl, HB2.out⟩
      · have hl1 : decide ((lo : Int) < (T.length : Int)) = false := by simp; omega
        have HT2 : Hid (thB (keysP T) k = false) := by
          rw [Hid, HT.out]
          simp [h1]
        go_wp2_with fail
        go_ret2
        exact ⟨by rw [HT2.out, HE.out]; rfl, HB.out⟩
end Go.Proofs.Ytgbmnngmfcneaaa.Pl
