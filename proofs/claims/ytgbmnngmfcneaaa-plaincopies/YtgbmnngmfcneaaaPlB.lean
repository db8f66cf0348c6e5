/- Lists with one more, with one less: the program's with and without. -/
import Derived.Test.YtgbmnngmfcneaaaPlA
import Derived.Test.YtgbmnngmfcneaaaAppW
namespace Go.Proofs.Ytgbmnngmfcneaaa.Pl
open Go.ChangeShapes Go.WideShapes Go.ChangeAt Go.RowKit
attribute [local go_sem ↓] Go.wp_at_zero Go.wp_at_succ

theorem own_cap {w : World} {B e k g n cap : Nat} {xs : List Value} (h : w.ownsRow B e k (.slice (some ⟨g, 0, none⟩) n cap) n xs) : n ≤ cap ∧ cap ≤ maxLen := by
  rcases h.2 with ⟨e', _⟩ | ⟨g', cap', cur, e', hb, hg, hc1, hc2, hc3, hc4⟩
  · cases e'
  · simp at e'
    obtain ⟨rfl, rfl⟩ := e'
    exact ⟨hc1, hc2⟩
/-- One is taken out of a row. -/
theorem del_row {α : Type} {k m i : Nat} {xs : List α} (hl : xs.length = (m + 1) * k) (hi : i < m + 1) : (xs.take (i * k) ++ (xs.drop ((i + 1) * k)).take ((m + 1 - (i + 1)) * k) ++ xs.drop (i * k + (m + 1 - (i + 1)) * k)).take (m * k) = xs.take (i * k) ++ xs.drop ((i + 1) * k) := by
  have h1 : i * k ≤ m * k := Nat.mul_le_mul_right _ (by omega)
  have h2 : (m + 1) * k = m * k + k := by rw [Nat.add_mul, Nat.one_mul]
  have h3 : (i + 1) * k = i * k + k := by rw [Nat.add_mul, Nat.one_mul]
  have h4 : (m + 1 - (i + 1)) * k = m * k - i * k := by rw [Nat.add_sub_add_right, Nat.sub_mul]
  rw [h3, h4]
  have h5 : (xs.drop (i * k + k)).length = m * k - i * k := by simp; omega
  rw [List.take_of_length_le (l := xs.drop (i * k + k)) (by omega)]
  rw [List.take_append_of_le_length (by simp; omega), List.take_of_length_le (by simp; omega)]
/-- One is put into a row. -/
theorem ins_row {α : Type} {k n i : Nat} {xs one : List α} (hl : xs.length = n * k) (ho : one.length = k) (hi : i ≤ n) :
    ((xs ++ one).take ((i + 1) * k) ++ ((xs ++ one).drop (i * k)).take ((n - i) * k) ++ (xs ++ one).drop ((i + 1) * k + (n - i) * k)) = (xs ++ one).take ((i + 1) * k) ++ xs.drop (i * k) := by
  have h1 : i * k ≤ n * k := Nat.mul_le_mul_right _ hi
  have h3 : (i + 1) * k = i * k + k := by rw [Nat.add_mul, Nat.one_mul]
  have h4 : (n - i) * k = n * k - i * k := by rw [Nat.sub_mul]
  rw [h3, h4]
  have h5 : (xs ++ one).drop (i * k) = xs.drop (i * k) ++ one := by rw [List.drop_append_of_le_length (by omega)]
  have h6 : (xs.drop (i * k)).length = n * k - i * k := by simp; omega
  rw [h5, List.take_append_of_le_length (l₁ := xs.drop (i * k)) (by omega), List.take_of_length_le (l := xs.drop (i * k)) (by omega)]
  rw [List.drop_of_length_le (l := xs ++ one) (by rw [List.length_append]; omega), List.append_nil]
theorem numC_del (l : List Int) (i : Nat) : numC (del l i) = (numC l).take (i * 1) ++ (numC l).drop ((i + 1) * 1) := by simp [del, numC]
theorem prC_del (T : List (Int × Int)) (i : Nat) : prC (del T i) = (prC T).take (i * 2) ++ (prC T).drop ((i + 1) * 2) := by rw [del, prC_app, prC_take, prC_drop]
theorem min_le {a b c : Nat} (h : a ≤ b) (hc : c = a) : Nat.min a b = c := by show min a b = c; omega
theorem min_ge {a b c : Nat} (h : b ≤ a) (hc : c = b) : Nat.min a b = c := by show min a b = c; omega
set_option maxRecDepth 10000 in
theorem wouti_any {w : World} {B g cap : Nat} {l : List Int} {i : Nat} (h : w.ownsRow B 2 1 (.slice (some ⟨g, 0, none⟩) l.length cap) l.length (numC l)) (hi : i < l.length) (hn : l.length ≤ 64) :
    Calls Try.prog 77 #[.slice (some ⟨g, 0, none⟩) l.length cap, .int .i64 (i : Int)] w fun e w' => e = .returned (.slice (some ⟨g, 0, none⟩) (l.length - 1) cap) ∧ w'.ownsRow B 2 1 (.slice (some ⟨g, 0, none⟩) (l.length - 1) cap) (l.length - 1) (numC (del l i)) ∧ Keep [g] w w' := by
  obtain ⟨hcl, hc63⟩ := own_cap h
  have hlen := h.1
  rw [numC_del]
  have hone := numC_one (l := l)
  generalize numC l = xs at *
  generalize l.length = n at *
  obtain ⟨m, rfl⟩ : ∃ m, n = m + 1 := ⟨n - 1, by omega⟩
  obtain ⟨i0, hii, hz0, hz1, hz2⟩ := info_parts info_i64
  have hw : wrap64 ((i : Int) + 1) = (i : Int) + 1 := by unfold wrap64; omega
  have hw2 : (((m + 1 : Nat) : Int) - 1) = (m : Int) := by omega
  have hne : ¬ cap = i := by omega
  have hnm : ¬ cap = m := by omega
  rw [show m + 1 - 1 = m from rfl]
  have hmm : m + 1 - m = 1 := by omega
  by_cases hci : cap = i + 1
  · obtain rfl : m = i := by omega
    subst hci
    obtain ⟨w1, hcp, ho1, hk1, hsz1⟩ := own_copy (P := Try.prog) (dT := 36) (sT := 36) (ty := 3) (w := w.drew) h hone Try.underlying36 size_i64 m (m + 1) 0 1 1 0 0 rfl (by omega) (by omega) (some ⟨g, m, none⟩) (some ⟨g, 0, none⟩) (Or.inl rfl) (Or.inl rfl)
    have h0 : m + 1 - (m + 1) = 0 := by omega
    obtain ⟨w2, hcl2, ho2, hk2, hsz2⟩ := own_clear (T := 36) (ty := 0) ho1 Try.underlying36 hii hz0 rfl (by decide) 1
    rw [Nat.mul_one] at hcl2
    have HO : Hid (w2.ownsRow B 2 1 (.slice (some ⟨g, 0, none⟩) m (m + 1)) m (xs.take (m * 1) ++ xs.drop ((m + 1) * 1))) := by
      have e := del_row (k := 1) hlen hi
      rw [h0] at e
      rw [← e]
      exact ho2
    have HK : Hid (Keep [g] w w2) := (show Keep [g] w w1 from ⟨hk1.os, hk1.tape, hk1.output, hk1.size, hk1.block⟩).trans hk2 (fun b hb => Or.inl hb)
    clear h ho1 ho2 hk1 hk2
    go_enter Try.func77, Try.ntmps77
    go_wp2_with fail
    go_region
    go_wp2_with fail
    go_ret
    exact ⟨rfl, HO.out, HK.out⟩
  · obtain ⟨w1, hcp, ho1, hk1, hsz1⟩ := own_copy (P := Try.prog) (dT := 36) (sT := 36) (ty := 3) (w := w.drew) h hone Try.underlying36 size_i64 i (i + 1) (m - i) (m + 1 - i) (cap - i) (m - i) (cap - (i + 1)) (min_le (by omega) rfl) (by omega) (by omega) (some ⟨g, i, none⟩) (some ⟨g, i + 1, none⟩) (Or.inr (by simp)) (Or.inr (by simp))
    obtain ⟨w2, hcl2, ho2, hk2, hsz2⟩ := own_clear (T := 36) (ty := 0) ho1 Try.underlying36 hii hz0 rfl (by decide) (cap - m)
    rw [Nat.mul_one] at hcl2
    have HO : Hid (w2.ownsRow B 2 1 (.slice (some ⟨g, 0, none⟩) m cap) m (xs.take (i * 1) ++ xs.drop ((i + 1) * 1))) := by
      have e := del_row (k := 1) hlen hi
      rw [show m + 1 - (i + 1) = m - i by omega] at e
      rw [← e]
      exact ho2
    have HK : Hid (Keep [g] w w2) := (show Keep [g] w w1 from ⟨hk1.os, hk1.tape, hk1.output, hk1.size, hk1.block⟩).trans hk2 (fun b hb => Or.inl hb)
    clear h ho1 ho2 hk1 hk2
    go_enter Try.func77, Try.ntmps77
    go_wp2_with fail
    go_region
    go_wp2_with fail
    go_ret
    exact ⟨rfl, HO.out, HK.out⟩
set_option maxRecDepth 10000 in
theorem woutp_any {w : World} {B g cap : Nat} {l : List (Int × Int)} {i : Nat} (h : w.ownsRow B 52 2 (.slice (some ⟨g, 0, none⟩) l.length cap) l.length (prC l)) (hi : i < l.length) (hn : l.length ≤ 64) :
    Calls Try.prog 81 #[.slice (some ⟨g, 0, none⟩) l.length cap, .int .i64 (i : Int)] w fun e w' => e = .returned (.slice (some ⟨g, 0, none⟩) (l.length - 1) cap) ∧ w'.ownsRow B 52 2 (.slice (some ⟨g, 0, none⟩) (l.length - 1) cap) (l.length - 1) (prC (del l i)) ∧ Keep [g] w w' := by
  obtain ⟨hcl, hc63⟩ := own_cap h
  have hlen := h.1
  rw [prC_del]
  have hone := prC_one (T := l)
  generalize prC l = xs at *
  generalize l.length = n at *
  obtain ⟨m, rfl⟩ : ∃ m, n = m + 1 := ⟨n - 1, by omega⟩
  obtain ⟨i0, hii, hz0, hz1, hz2⟩ := info_parts info_pair
  have hw : wrap64 ((i : Int) + 1) = (i : Int) + 1 := by unfold wrap64; omega
  have hw2 : (((m + 1 : Nat) : Int) - 1) = (m : Int) := by omega
  have hne : ¬ cap = i := by omega
  have hnm : ¬ cap = m := by omega
  rw [show m + 1 - 1 = m from rfl]
  have hmm : m + 1 - m = 1 := by omega
  by_cases hci : cap = i + 1
  · obtain rfl : m = i := by omega
    subst hci
    obtain ⟨w1, hcp, ho1, hk1, hsz1⟩ := own_copy (P := Try.prog) (dT := 48) (sT := 48) (ty := 3) (w := w.drew) h hone Try.underlying48 size_pair m (m + 1) 0 1 1 0 0 rfl (by omega) (by omega) (some ⟨g, m * 2, none⟩) (some ⟨g, 0, none⟩) (Or.inl rfl) (Or.inl rfl)
    have h0 : m + 1 - (m + 1) = 0 := by omega
    obtain ⟨w2, hcl2, ho2, hk2, hsz2⟩ := own_clear (T := 48) (ty := 0) ho1 Try.underlying48 hii hz0 rfl (by decide) 1
    have HO : Hid (w2.ownsRow B 52 2 (.slice (some ⟨g, 0, none⟩) m (m + 1)) m (xs.take (m * 2) ++ xs.drop ((m + 1) * 2))) := by
      have e := del_row (k := 2) hlen hi
      rw [h0] at e
      rw [← e]
      exact ho2
    have HK : Hid (Keep [g] w w2) := (show Keep [g] w w1 from ⟨hk1.os, hk1.tape, hk1.output, hk1.size, hk1.block⟩).trans hk2 (fun b hb => Or.inl hb)
    clear h ho1 ho2 hk1 hk2
    go_enter Try.func81, Try.ntmps81
    go_wp2_with fail
    go_region
    go_wp2_with fail
    go_ret
    exact ⟨rfl, HO.out, HK.out⟩
  · obtain ⟨w1, hcp, ho1, hk1, hsz1⟩ := own_copy (P := Try.prog) (dT := 48) (sT := 48) (ty := 3) (w := w.drew) h hone Try.underlying48 size_pair i (i + 1) (m - i) (m + 1 - i) (cap - i) (m - i) (cap - (i + 1)) (min_le (by omega) rfl) (by omega) (by omega) (some ⟨g, i * 2, none⟩) (some ⟨g, (i + 1) * 2, none⟩) (Or.inr (by simp)) (Or.inr (by simp))
    obtain ⟨w2, hcl2, ho2, hk2, hsz2⟩ := own_clear (T := 48) (ty := 0) ho1 Try.underlying48 hii hz0 rfl (by decide) (cap - m)
    have HO : Hid (w2.ownsRow B 52 2 (.slice (some ⟨g, 0, none⟩) m cap) m (xs.take (i * 2) ++ xs.drop ((i + 1) * 2))) := by
      have e := del_row (k := 2) hlen hi
      rw [show m + 1 - (i + 1) = m - i by omega] at e
      rw [← e]
      exact ho2
    have HK : Hid (Keep [g] w w2) := (show Keep [g] w w1 from ⟨hk1.os, hk1.tape, hk1.output, hk1.size, hk1.block⟩).trans hk2 (fun b hb => Or.inl hb)
    clear h ho1 ho2 hk1 hk2
    go_enter Try.func81, Try.ntmps81
    go_wp2_with fail
    go_region
    go_wp2_with fail
    go_ret
    exact ⟨rfl, HO.out, HK.out⟩
theorem heap_alloc_2 (w : World) (o1 o2 : Obj) : ((w.alloc o1).alloc o2).heap[w.heap.size + 1]? = some o2 := by
  have := heap_alloc_new (w.alloc o1) o2
  simpa using this
theorem insU {α : Type} (l : List α) (x : α) (i : Nat) (hi : i ≤ l.length) : (((l ++ [x]).take (i + 1) ++ l.drop i).set i x) = ins l i x := by
  unfold ins
  have h1 : ((l ++ [x]).take (i + 1)).length = i + 1 := by simp; omega
  have h2 : (l ++ [x]).take i = l.take i := by rw [List.take_append_of_le_length hi]
  rw [List.set_append_left _ _ (by omega)]
  have h3 : ((l ++ [x]).take (i + 1)).set i x = l.take i ++ [x] := by
    rw [List.take_add_one, h2, List.set_append_right _ _ (by simp; omega)]
    have h4 : (l.take i).length = i := by simp; omega
    rw [h4, Nat.sub_self]
    have h5 : i < (l ++ [x]).length := by simp; omega
    simp [List.getElem?_eq_getElem h5]
  rw [h3]
  simp
theorem prC_set (U : List (Int × Int)) (i : Nat) (x : Int × Int) : ((prC U).set (i * 2) (.int .i64 x.1)).set (i * 2 + 1) (.int .i64 x.2) = prC (U.set i x) := by
  induction U generalizing i with
  | nil => simp [prC]
  | cons y U ih =>
    cases i with
    | zero => simp [prC_cons]
    | succ i =>
      rw [prC_cons, show (i + 1) * 2 = (i * 2 + 1) + 1 by omega]
      simp only [List.set_cons_succ]
      rw [ih, prC_cons]
theorem own_set2 {w : World} {base g n cap k : Nat} {e : TypeId} {xs : List Value} (h : w.ownsRow base e k (.slice (some ⟨g, 0, none⟩) n cap) n xs) (j : Nat) (v : Value) : (w.setCell ⟨g, j, none⟩ v).ownsRow base e k (.slice (some ⟨g, 0, none⟩) n cap) n (xs.set j v) := by
  have hl := h.1
  rcases h.2 with ⟨e, _⟩ | ⟨g', cap', cur, e, hb, hg, h1, h2, h3, h4⟩
  · cases e
  · simp at e
    obtain ⟨rfl, rfl⟩ := e
    refine ⟨by rw [List.length_set]; exact hl, Or.inr ⟨g, cap, cur.setIfInBounds j v, rfl, hb, heap_set hg j v, h1, h2, by simpa using h3, ?_⟩⟩
    rw [← h4]
    simp [List.take_set]
set_option maxRecDepth 10000 in
theorem withi_any {w : World} {B : Nat} {v : Value} {l : List Int} {i : Nat} (x : Int) (h : w.ownsRow B 2 1 v l.length (numC l)) (hi : i ≤ l.length) (hn : l.length ≤ 64) (hB : B ≤ w.heap.size) :
    Calls Try.prog 84 #[v, .int .i64 (i : Int), .int .i64 x] w fun e w' => ∃ g cap, e = .returned (.slice (some ⟨g, 0, none⟩) (l.length + 1) cap) ∧ w'.ownsRow B 2 1 (.slice (some ⟨g, 0, none⟩) (l.length + 1) cap) (l.length + 1) (numC (ins l i x)) ∧ Next v.ownBlock.toList [g] w w' := by
  obtain ⟨i0, hii, hz0, hz1, hz2⟩ := info_parts info_i64
  have HH : Hid (w.ownsRow B 2 1 v l.length (numC l)) := h
  have HI : Hid (numC (ins l i x) = numC (((l ++ [x]).take (i + 1) ++ l.drop i).set i x)) := by rw [Hid, insU l x i hi]
  obtain ⟨va, vc, rfl⟩ := own_slice h
  clear h
  have hw : wrap64 ((i : Int) + 1) = (i : Int) + 1 := by unfold wrap64; omega
  go_enter Try.func84, Try.ntmps84
  go_wp2_with (at_builtin; refine list_lies_wide _ rfl _ _ 36 rfl B 2 i0 _ 1 8 Try.underlying36 hii hz0 hz1 hz2 rfl (by decide) _ _ _ rfl (HH.out.alloc _) ⟨w.heap.size, 0, none⟩ 1 1 [.int .i64 x] rfl rfl ?c1 ?c2 ?c3 ?c4 ?c5 ?c6 _ rfl ?_)
  case c1 => exact World.news_of_block (cs := #[.int .i64 x]) (t := 2) (fr := (0, 0)) (heap_alloc_new _ _)
  case c2 => intro u hu; simp at hu; subst hu; rfl
  case c3 => decide
  case c4 => unfold maxLen; omega
  case c5 => first | omega | (simp; omega)
  case c6 => first | omega | (simp; omega)
  intro g cp w2 hown' hgrow hwho _
  have hcp := own_cap hown'
  have hlen := HH.out.1
  have hN2 : Next (Value.ownBlock (.slice va l.length vc)).toList [g] w w2 := ⟨(Keep.grown (Keep.alloc (Keep.refl _ _) _) hgrow (fun b hb => Or.inl (by simpa using hb))), fun b hb => by
    simp only [List.mem_singleton] at hb
    subst hb
    rcases hwho with h1 | h1
    · left; simpa using h1
    · right; rw [h1]; first | omega | (simp; omega) | simp⟩
  have HN2 : Hid (Next (Value.ownBlock (.slice va l.length vc)).toList [g] w w2) := hN2
  have HO2 : Hid (w2.ownsRow B 2 1 (.slice (some ⟨g, 0, none⟩) (l.length + 1) cp) (l.length + 1) (numC l ++ ([.int .i64 x] : List Value))) := hown'
  have hone : ∀ u ∈ numC l ++ ([.int .i64 x] : List Value), u.oneCell' = true := fun u hu => by
    rcases List.mem_append.1 hu with h1 | h1
    · exact numC_one u h1
    · simp at h1; subst h1; rfl
  have HR : Hid (∀ (w3 : World), w3.ownsRow B 2 1 (.slice (some ⟨g, 0, none⟩) (l.length + 1) cp) (l.length + 1) ((numC l ++ ([.int .i64 x] : List Value)).take ((i + 1) * 1) ++ ((numC l ++ ([.int .i64 x] : List Value)).drop (i * 1)).take ((l.length - i) * 1) ++ (numC l ++ ([.int .i64 x] : List Value)).drop ((i + 1) * 1 + (l.length - i) * 1)) → w3.ownsRow B 2 1 (.slice (some ⟨g, 0, none⟩) (l.length + 1) cp) (l.length + 1) (numC ((l ++ [x]).take (i + 1) ++ l.drop i))) := fun w3 h => by
    rw [ins_row (k := 1) hlen rfl hi] at h
    have e : numC ((l ++ [x]).take (i + 1) ++ l.drop i) = (numC l ++ ([.int .i64 x] : List Value)).take ((i + 1) * 1) ++ (numC l).drop (i * 1) := by
      simp [numC]
    rw [e]
    exact h
  have hci0 : ¬ cp = i := by omega
  have hcp1 : l.length + 1 ≤ cp := hcp.1
  clear hown' hgrow hwho hN2
  by_cases hci : cp = i + 1
  · obtain rfl : i = l.length := by omega
    subst hci
    obtain ⟨w3, hc3, ho3, hk3, _⟩ := own_copy (P := Try.prog) (dT := 36) (sT := 36) (ty := 3) (w := w2.drew) HO2.out hone Try.underlying36 size_i64 (l.length + 1) l.length 0 0 0 1 1 rfl (by omega) (by omega) (some ⟨g, 0, none⟩) (some ⟨g, l.length, none⟩) (Or.inl (by omega)) (Or.inl (by omega))
    have ho4 := HR.out _ (by rw [Nat.sub_self]; exact ho3)
    have HK3 : Hid (Keep [g] w2 w3) := ⟨hk3.os, hk3.tape, hk3.output, hk3.size, hk3.block⟩
    have HO3 : Hid (w3.ownsRow B 2 1 (.slice (some ⟨g, 0, none⟩) (l.length + 1) (l.length + 1)) (l.length + 1) (numC ((l ++ [x]).take (l.length + 1) ++ l.drop l.length))) := ho4
    obtain ⟨⟨z1, hz1⟩, hf1⟩ := own_some ho4 l.length (by omega)
    have HF : Hid ((w3.setCell ⟨g, l.length, none⟩ (.int .i64 x)).ownsRow B 2 1 (.slice (some ⟨g, 0, none⟩) (l.length + 1) (l.length + 1)) (l.length + 1) (numC (((l ++ [x]).take (l.length + 1) ++ l.drop l.length).set l.length x))) := by
      rw [Hid, ← numC_set]
      exact own_set2 ho4 _ _
    have HN : Hid (Next (Value.ownBlock (.slice va l.length vc)).toList [g] w (w3.setCell ⟨g, l.length, none⟩ (.int .i64 x))) := HN2.out.trans ⟨Keep.setCell HK3.out _ _ (Or.inl (by simp)), fun b hb => Or.inl hb⟩
    clear ho3 ho4 hk3 HR hcp
    go_wp2_with fail
    go_region
    go_wp2_with fail
    go_ret
    exact ⟨g, _, rfl, by rw [HI.out]; exact HF.out, HN.out⟩
  · obtain ⟨w3, hc3, ho3, hk3, _⟩ := own_copy (P := Try.prog) (dT := 36) (sT := 36) (ty := 3) (w := w2.drew) HO2.out hone Try.underlying36 size_i64 (i + 1) i (l.length - i) (l.length - i) (cp - (i + 1)) (l.length + 1 - i) (cp - i) (min_ge (by omega) rfl) (by omega) (by omega) (some ⟨g, i + 1, none⟩) (some ⟨g, i, none⟩) (Or.inr (by simp)) (Or.inr (by simp))
    have ho4 := HR.out _ ho3
    have HK3 : Hid (Keep [g] w2 w3) := ⟨hk3.os, hk3.tape, hk3.output, hk3.size, hk3.block⟩
    have HO3 : Hid (w3.ownsRow B 2 1 (.slice (some ⟨g, 0, none⟩) (l.length + 1) cp) (l.length + 1) (numC ((l ++ [x]).take (i + 1) ++ l.drop i))) := ho4
    obtain ⟨⟨z1, hz1⟩, hf1⟩ := own_some ho4 i (by omega)
    have HF : Hid ((w3.setCell ⟨g, i, none⟩ (.int .i64 x)).ownsRow B 2 1 (.slice (some ⟨g, 0, none⟩) (l.length + 1) cp) (l.length + 1) (numC (((l ++ [x]).take (i + 1) ++ l.drop i).set i x))) := by
      rw [Hid, ← numC_set]
      exact own_set2 ho4 _ _
    have HN : Hid (Next (Value.ownBlock (.slice va l.length vc)).toList [g] w (w3.setCell ⟨g, i, none⟩ (.int .i64 x))) := HN2.out.trans ⟨Keep.setCell HK3.out _ _ (Or.inl (by simp)), fun b hb => Or.inl hb⟩
    clear ho3 ho4 hk3 HR hcp
    go_wp2_with fail
    go_region
    go_wp2_with fail
    go_ret
    exact ⟨g, _, rfl, by rw [HI.out]; exact HF.out, HN.out⟩
set_option maxRecDepth 10000 in
theorem withp_any {w : World} {B : Nat} {v : Value} {l : List (Int × Int)} {i : Nat} (x : (Int × Int)) (h : w.ownsRow B 52 2 v l.length (prC l)) (hi : i ≤ l.length) (hn : l.length ≤ 64) (hB : B ≤ w.heap.size) :
    Calls Try.prog 80 #[v, .int .i64 (i : Int), .agg #[.int .i64 x.1, .int .i64 x.2]] w fun e w' => ∃ g cap, e = .returned (.slice (some ⟨g, 0, none⟩) (l.length + 1) cap) ∧ w'.ownsRow B 52 2 (.slice (some ⟨g, 0, none⟩) (l.length + 1) cap) (l.length + 1) (prC (ins l i x)) ∧ Next v.ownBlock.toList [g] w w' := by
  obtain ⟨i0, hii, hz0, hz1, hz2⟩ := info_parts info_pair
  have HH : Hid (w.ownsRow B 52 2 v l.length (prC l)) := h
  have HI : Hid (prC (ins l i x) = prC (((l ++ [x]).take (i + 1) ++ l.drop i).set i x)) := by rw [Hid, insU l x i hi]
  obtain ⟨va, vc, rfl⟩ := own_slice h
  clear h
  have hw : wrap64 ((i : Int) + 1) = (i : Int) + 1 := by unfold wrap64; omega
  obtain ⟨x1, x2⟩ := x
  dsimp only at *
  go_enter Try.func80, Try.ntmps80
  go_wp2_with (at_builtin; refine list_lies_wide _ rfl _ _ 48 rfl B 52 i0 _ 2 16 Try.underlying48 hii hz0 hz1 hz2 rfl (by decide) _ _ _ rfl ((HH.out.alloc _).alloc _) ⟨w.heap.size + 1, 0, none⟩ 1 1 [.int .i64 x1, .int .i64 x2] rfl rfl ?c1 ?c2 ?c3 ?c4 ?c5 ?c6 _ rfl ?_)
  case c1 => exact World.news_of_block (cs := #[.int .i64 x1, .int .i64 x2]) (t := 52) (fr := (0, 0)) (heap_alloc_2 _ _ _)
  case c2 => intro u hu; simp at hu; rcases hu with rfl | rfl <;> rfl
  case c3 => decide
  case c4 => unfold maxLen; omega
  case c5 => first | omega | (simp; omega)
  case c6 => first | omega | (simp; omega)
  intro g cp w2 hown' hgrow hwho _
  have hcp := own_cap hown'
  have hlen := HH.out.1
  have hN2 : Next (Value.ownBlock (.slice va l.length vc)).toList [g] w w2 := ⟨(Keep.grown (Keep.alloc (Keep.alloc (Keep.refl _ _) _) _) hgrow (fun b hb => Or.inl (by simpa using hb))), fun b hb => by
    simp only [List.mem_singleton] at hb
    subst hb
    rcases hwho with h1 | h1
    · left; simpa using h1
    · right; rw [h1]; first | omega | (simp; omega) | simp⟩
  have HN2 : Hid (Next (Value.ownBlock (.slice va l.length vc)).toList [g] w w2) := hN2
  have HO2 : Hid (w2.ownsRow B 52 2 (.slice (some ⟨g, 0, none⟩) (l.length + 1) cp) (l.length + 1) (prC l ++ ([.int .i64 x1, .int .i64 x2] : List Value))) := hown'
  have hone : ∀ u ∈ prC l ++ ([.int .i64 x1, .int .i64 x2] : List Value), u.oneCell' = true := fun u hu => by
    rcases List.mem_append.1 hu with h1 | h1
    · exact prC_one u h1
    · simp at h1; rcases h1 with rfl | rfl <;> rfl
  have HR : Hid (∀ (w3 : World), w3.ownsRow B 52 2 (.slice (some ⟨g, 0, none⟩) (l.length + 1) cp) (l.length + 1) ((prC l ++ ([.int .i64 x1, .int .i64 x2] : List Value)).take ((i + 1) * 2) ++ ((prC l ++ ([.int .i64 x1, .int .i64 x2] : List Value)).drop (i * 2)).take ((l.length - i) * 2) ++ (prC l ++ ([.int .i64 x1, .int .i64 x2] : List Value)).drop ((i + 1) * 2 + (l.length - i) * 2)) → w3.ownsRow B 52 2 (.slice (some ⟨g, 0, none⟩) (l.length + 1) cp) (l.length + 1) (prC ((l ++ [(x1, x2)]).take (i + 1) ++ l.drop i))) := fun w3 h => by
    rw [ins_row (k := 2) hlen rfl hi] at h
    have e : prC ((l ++ [(x1, x2)]).take (i + 1) ++ l.drop i) = (prC l ++ ([.int .i64 x1, .int .i64 x2] : List Value)).take ((i + 1) * 2) ++ (prC l).drop (i * 2) := by
      rw [prC_app, ← prC_take, prC_app, ← prC_drop]; rfl
    rw [e]
    exact h
  have hci0 : ¬ cp = i := by omega
  have hvb : ∀ b, Value.ownBlock (.slice va l.length vc) = some b → b < w.heap.size := fun b hb => (own_block HH.out b hb).2
  have hgw : g ≠ w.heap.size := fun e => by
    rcases hwho with h1 | h1
    · have := hvb _ h1; omega
    · omega
  have hpar : w2.heap[w.heap.size]? = some (.cells #[.int .i64 x1, .int .i64 x2] 52 (0, 0)) := by
    rw [hgrow.block _ (by simp; omega) (fun e => by have := hvb _ e.symm; omega)]
    exact heap_alloc2_old _ _ _
  have HP : Hid (∀ w3 : World, Keep [g] w2 w3 → w3.cell? ⟨w.heap.size, 0, none⟩ = some (.int .i64 x1) ∧ w3.cell? ⟨w.heap.size, 1, none⟩ = some (.int .i64 x2)) := fun w3 hk => by
    have hb := hk.block _ (heap_lt hpar) (by simpa using fun e => hgw e.symm)
    rw [hpar] at hb
    exact ⟨(cell_at hb 0).trans rfl, (cell_at hb 1).trans rfl⟩
  have hcp1 : l.length + 1 ≤ cp := hcp.1
  clear hown' hgrow hwho hN2 hpar hgw hvb
  by_cases hci : cp = i + 1
  · obtain rfl : i = l.length := by omega
    subst hci
    obtain ⟨w3, hc3, ho3, hk3, _⟩ := own_copy (P := Try.prog) (dT := 48) (sT := 48) (ty := 3) (w := w2.drew) HO2.out hone Try.underlying48 size_pair (l.length + 1) l.length 0 0 0 1 1 rfl (by omega) (by omega) (some ⟨g, 0, none⟩) (some ⟨g, l.length * 2, none⟩) (Or.inl (by omega)) (Or.inl (by omega))
    have ho4 := HR.out _ (by rw [Nat.sub_self]; exact ho3)
    have HK3 : Hid (Keep [g] w2 w3) := ⟨hk3.os, hk3.tape, hk3.output, hk3.size, hk3.block⟩
    have HO3 : Hid (w3.ownsRow B 52 2 (.slice (some ⟨g, 0, none⟩) (l.length + 1) (l.length + 1)) (l.length + 1) (prC ((l ++ [(x1, x2)]).take (l.length + 1) ++ l.drop l.length))) := ho4
    obtain ⟨hp0, hp1⟩ := HP.out w3 HK3.out
    obtain ⟨⟨z1, hz1⟩, hf1⟩ := own_some ho4 (l.length * 2) (by omega)
    obtain ⟨⟨z2, hz2⟩, hf2⟩ := own_some ho4 (l.length * 2 + 1) (by omega)
    have HF : Hid (((w3.setCell ⟨g, l.length * 2, none⟩ (.int .i64 x1)).setCell ⟨g, l.length * 2 + 1, none⟩ (.int .i64 x2)).ownsRow B 52 2 (.slice (some ⟨g, 0, none⟩) (l.length + 1) (l.length + 1)) (l.length + 1) (prC (((l ++ [(x1, x2)]).take (l.length + 1) ++ l.drop l.length).set l.length (x1, x2)))) := by
      rw [Hid, ← prC_set]
      exact own_set2 (own_set2 ho4 _ _) _ _
    have HN : Hid (Next (Value.ownBlock (.slice va l.length vc)).toList [g] w ((w3.setCell ⟨g, l.length * 2, none⟩ (.int .i64 x1)).setCell ⟨g, l.length * 2 + 1, none⟩ (.int .i64 x2))) := HN2.out.trans ⟨Keep.setCell (Keep.setCell HK3.out _ _ (Or.inl (by simp))) _ _ (Or.inl (by simp)), fun b hb => Or.inl hb⟩
    clear ho3 ho4 hk3 HR hcp
    go_wp2_with fail
    go_region
    go_wp2_with fail
    go_ret
    exact ⟨g, _, rfl, by rw [HI.out]; exact HF.out, HN.out⟩
  · obtain ⟨w3, hc3, ho3, hk3, _⟩ := own_copy (P := Try.prog) (dT := 48) (sT := 48) (ty := 3) (w := w2.drew) HO2.out hone Try.underlying48 size_pair (i + 1) i (l.length - i) (l.length - i) (cp - (i + 1)) (l.length + 1 - i) (cp - i) (min_ge (by omega) rfl) (by omega) (by omega) (some ⟨g, (i + 1) * 2, none⟩) (some ⟨g, i * 2, none⟩) (Or.inr (by simp)) (Or.inr (by simp))
    have ho4 := HR.out _ ho3
    have HK3 : Hid (Keep [g] w2 w3) := ⟨hk3.os, hk3.tape, hk3.output, hk3.size, hk3.block⟩
    have HO3 : Hid (w3.ownsRow B 52 2 (.slice (some ⟨g, 0, none⟩) (l.length + 1) cp) (l.length + 1) (prC ((l ++ [(x1, x2)]).take (i + 1) ++ l.drop i))) := ho4
    obtain ⟨hp0, hp1⟩ := HP.out w3 HK3.out
    obtain ⟨⟨z1, hz1⟩, hf1⟩ := own_some ho4 (i * 2) (by omega)
    obtain ⟨⟨z2, hz2⟩, hf2⟩ := own_some ho4 (i * 2 + 1) (by omega)
    have HF : Hid (((w3.setCell ⟨g, i * 2, none⟩ (.int .i64 x1)).setCell ⟨g, i * 2 + 1, none⟩ (.int .i64 x2)).ownsRow B 52 2 (.slice (some ⟨g, 0, none⟩) (l.length + 1) cp) (l.length + 1) (prC (((l ++ [(x1, x2)]).take (i + 1) ++ l.drop i).set i (x1, x2)))) := by
      rw [Hid, ← prC_set]
      exact own_set2 (own_set2 ho4 _ _) _ _
    have HN : Hid (Next (Value.ownBlock (.slice va l.length vc)).toList [g] w ((w3.setCell ⟨g, i * 2, none⟩ (.int .i64 x1)).setCell ⟨g, i * 2 + 1, none⟩ (.int .i64 x2))) := HN2.out.trans ⟨Keep.setCell (Keep.setCell HK3.out _ _ (Or.inl (by simp))) _ _ (Or.inl (by simp)), fun b hb => Or.inl hb⟩
    clear ho3 ho4 hk3 HR hcp
    go_wp2_with fail
    go_region
    go_wp2_with fail
    go_ret
    exact ⟨g, _, rfl, by rw [HI.out]; exact HF.out, HN.out⟩
end Go.Proofs.Ytgbmnngmfcneaaa.Pl
