/- The document's machine of layer 7: what comes next, behind loads that told these. -/
import Derived.Test.YtcckdjmbjghbdaaBegB
import Derived.Test.YtcckdjmbjghbdaaMemN
namespace Go.Proofs.Ytcckdjmbjghbdaa
open Go.ChangeShapes Go.WideShapes Go.ChangeAt Go.RowKit
attribute [local go_sem ↓] Go.wp_at_zero Go.wp_at_succ

/-- Behind n, not below 1, and t the machine's numbers are these: none of the first m was over. -/
structure LGo (s : Nat) (b : Bg) (n : Int) (t : List Int) (m : Nat) : Prop where
  n1 : 1 ≤ n
  le : t.length ≤ s
  not : ∀ q, q < m → overV (t.getD q 0) (n - (q : Int)) = false
  c : (m = t.length ∧ ((b = ⟨1, n, n - (m : Int)⟩ ∧ 1 ≤ n - (m : Int) ∧ m < s) ∨ (b = ⟨2, n, n - (m : Int)⟩ ∧ (n - (m : Int) < 1 ∨ m = s)))) ∨ (m + 1 = t.length ∧ overV (t.getD m 0) (n - (m : Int)) = true ∧ b = ⟨2, n, n - (m : Int)⟩)
/-- The machine's numbers are those behind these loads. -/
structure LOk (s : Nat) (b : Bg) (l : List Int) : Prop where
  s1 : 1 ≤ s
  s16 : s ≤ 16
  w : ∀ x ∈ l, W64 x
  c : (b = bgNew ∧ l = []) ∨ (∃ n, l = [n] ∧ n < 1 ∧ b = ⟨2, n, 0⟩) ∨ (∃ n t m, l = n :: t ∧ LGo s b n t m)
theorem lok_new {s : Nat} (h1 : 1 ≤ s) (h2 : s ≤ 16) : LOk s bgNew [] := ⟨h1, h2, fun x hx => by simp at hx, Or.inl ⟨rfl, rfl⟩⟩
theorem lok_len {s : Nat} {b : Bg} {l : List Int} (h : LOk s b l) : l.length ≤ 17 := by
  have := h.s16
  rcases h.c with ⟨_, rfl⟩ | ⟨n, rfl, _⟩ | ⟨n, t, m, rfl, hg⟩
  · simp
  · simp
  · have := hg.le
    simp; omega
theorem getD_last (t : List Int) (v : Int) : (t ++ [v]).getD t.length 0 = v := by simp
theorem getD_old (t : List Int) (v : Int) (q : Nat) (h : q < t.length) : (t ++ [v]).getD q 0 = t.getD q 0 := by
  simp only [List.getD_eq_getElem?_getD, List.getElem?_append_left h]
theorem lok_step {s : Nat} {b : Bg} {l : List Int} {v : Int} (h : LOk s b l) (hv : W64 v) (hn : b.st ≠ 2) : LOk s (stepV s b v) (l ++ [v]) := by
  have hs := h.s1
  refine ⟨h.s1, h.s16, fun x hx => ?_, ?_⟩
  · rcases List.mem_append.1 hx with h1 | h1
    · exact h.w x h1
    · simp at h1; subst h1; exact hv
  · rcases h.c with ⟨rfl, rfl⟩ | ⟨n, rfl, _, rfl⟩ | ⟨n, t, m, rfl, hg⟩
    · unfold stepV seeV
      rw [if_pos (show bgNew.st = 0 from rfl)]
      by_cases e : v < 1
      · rw [if_pos e]
        exact Or.inr (Or.inl ⟨v, rfl, e, rfl⟩)
      · rw [if_neg e]
        exact Or.inr (Or.inr ⟨v, [], 0, rfl, by omega, by simp, fun q hq => by omega, Or.inl ⟨rfl, Or.inl ⟨by simp, by simp; omega, by omega⟩⟩⟩)
    · exact absurd rfl hn
    · have hle := hg.le
      rcases hg.c with ⟨hm, ⟨rfl, h1, h2⟩ | ⟨rfl, _⟩⟩ | ⟨_, _, rfl⟩
      · subst hm
        unfold stepV lookV
        rw [if_neg (by simp), if_pos rfl]
        simp only
        by_cases e : overV v (n - (t.length : Int)) = true
        · rw [if_pos e]
          exact Or.inr (Or.inr ⟨n, t ++ [v], t.length, by simp, hg.n1, by simp; omega, fun q hq => by rw [getD_old _ _ _ hq]; exact hg.not q hq, Or.inr ⟨by simp, by rw [getD_last]; exact e, rfl⟩⟩)
        · rw [if_neg e]
          have hnot : ∀ q, q < t.length + 1 → overV ((t ++ [v]).getD q 0) (n - (q : Int)) = false := fun q hq => by
            by_cases e2 : q < t.length
            · rw [getD_old _ _ _ e2]; exact hg.not q e2
            · obtain rfl : q = t.length := by omega
              rw [getD_last]; simpa using e
          have hc : n - ((t.length + 1 : Nat) : Int) = n - (t.length : Int) - 1 := by omega
          by_cases e2 : n - (t.length : Int) - 1 < 1 ∨ n - (t.length : Int) - 1 = n - (s : Int)
          · rw [if_pos e2]
            exact Or.inr (Or.inr ⟨n, t ++ [v], t.length + 1, by simp, hg.n1, by simp; omega, hnot, Or.inl ⟨by simp, Or.inr ⟨by rw [hc], by omega⟩⟩⟩)
          · rw [if_neg e2]
            exact Or.inr (Or.inr ⟨n, t ++ [v], t.length + 1, by simp, hg.n1, by simp; omega, hnot, Or.inl ⟨by simp, Or.inl ⟨by rw [hc], by omega, by omega⟩⟩⟩)
      · exact absurd rfl hn
      · exact absurd rfl hn

/-- What comes next. -/
def plA (s : Nat) (b : Bg) : Ad := if b.st = 2 then ⟨0, 0, 0⟩ else adV s b
def planC (s : Nat) (b : Bg) : Array Value := #[.bool (decide (b.st = 2)), .int .i64 (if b.st = 2 then b.stamp else 0), .int .i64 (if b.st = 2 then b.seen else 0), .int .i64 (plA s b).k, .int .i64 (plA s b).i, .int .i64 (plA s b).j]
def numC (l : List Int) : List Value := l.map (Value.int .i64)
/-- A list of numbers behind a slice. -/
def NLst (w : World) (v : Value) (l : List Int) : Prop := ∃ a cap, v = .slice a l.length cap ∧ (l = [] ∨ ∃ g, a = some ⟨g, 0, none⟩ ∧ g < w.heap.size ∧ ∀ i, i < l.length → w.cell? ⟨g, i, none⟩ = some (.int .i64 (l.getD i 0)))
theorem ret_plan {fn : Func} {p : Tmp} {R : Ending → World → Prop} {a : Act} {w : World} {g : Nat} {cs : Array Value} (h : fn.results = #[.cell p 87]) (hp : a.tmps.getD p undef = .pointer (some ⟨g, 0, none⟩))
    (hg : w.heap[g]? = some (.cells cs 87 (0, 0))) (hz : cs.size = 6) (hd : a.defers = []) (hR : R (.returned (.agg cs)) w) : bodyPost Try.prog fn R .ret a w :=
  bodyPost_ret (results_cell_row h _ _ g 87 cs (0, 0) _ hp hg Try.underlying87 rfl (by rw [hz]; kernel_rfl)) hd hR

set_option maxRecDepth 10000 in
theorem next_nil (w : World) (s : Nat) (cap : Nat) (a : Option Addr) :
    Calls Try.prog 30 #[.int .i64 (s : Int), .slice a 0 cap] w fun e w' => e = .returned (.agg (planC s bgNew)) ∧ Below w.heap.size w w' := by
  go_enter Try.func30, Try.ntmps30
  go_wp2
  exact ret_plan rfl rfl (heap_alloc_new _ _) rfl rfl ⟨rfl, below_a1 _ _⟩
theorem NLst.cell {w : World} {a : Option Addr} {cap : Nat} {l : List Int} (h : NLst w (.slice a l.length cap) l) (hl : l ≠ []) : ∃ g, a = some ⟨g, 0, none⟩ ∧ g < w.heap.size ∧ ∀ i, i < l.length → w.cell? ⟨g, i, none⟩ = some (.int .i64 (l.getD i 0)) := by
  obtain ⟨a', cap', hv, h⟩ := h
  simp at hv
  obtain ⟨rfl, rfl⟩ := hv
  rcases h with h | h
  · exact absurd h hl
  · exact h

set_option maxRecDepth 10000 in
theorem next_low (w : World) (s : Nat) (v : Value) (n : Int) (h : NLst w v [n]) (hn : n < 1) :
    Calls Try.prog 30 #[.int .i64 (s : Int), v] w fun e w' => e = .returned (.agg (planC s ⟨2, n, 0⟩)) ∧ Below w.heap.size w w' := by
  obtain ⟨a, cap, rfl, _⟩ := id h
  obtain ⟨g, rfl, hg, hc⟩ := h.cell (by simp)
  have c0 : w.cell? ⟨g, 0, none⟩ = some (.int .i64 n) := hc 0 (by simp)
  have hd : decide (n < 1) = true := by simpa using hn
  clear h hc
  show Calls Try.prog 30 #[.int .i64 (s : Int), .slice (some ⟨g, 0, none⟩) 1 cap] w _
  go_enter Try.func30, Try.ntmps30
  go_wp2
  exact ret_plan rfl rfl (heap_alloc_new _ _) rfl rfl ⟨rfl, below_a1 _ _⟩

/-- A plan is laid. -/
def laid6 (w : World) (B : Nat) (c0 c1 c2 c3 c4 c5 : Value) : World := (((((w.setCell ⟨B, 0, none⟩ c0).setCell ⟨B, 1, none⟩ c1).setCell ⟨B, 2, none⟩ c2).setCell ⟨B, 3, none⟩ c3).setCell ⟨B, 4, none⟩ c4).setCell ⟨B, 5, none⟩ c5
theorem below6 {w0 w : World} {A B : Nat} (hk : Below A w0 w) (hB : A ≤ B) (c0 c1 c2 c3 c4 c5 : Value) : Below A w0 (laid6 w B c0 c1 c2 c3 c4 c5) :=
  (((((hk.setCell hB _).setCell hB _).setCell hB _).setCell hB _).setCell hB _).setCell hB _
def noPlan : Array Value := #[.bool false, .int .i64 0, .int .i64 0, .int .i64 0, .int .i64 0, .int .i64 0]
theorem plan_set {w : World} {B : Nat} (h : w.heap[B]? = some (.cells noPlan 87 (0, 0))) (c0 c1 c2 c3 c4 c5 : Value) :
    (laid6 w B c0 c1 c2 c3 c4 c5).heap[B]? = some (.cells #[c0, c1, c2, c3, c4, c5] 87 (0, 0)) := by
  have h1 := heap_set (i := 0) (v := c0) h
  have h2 := heap_set (i := 1) (v := c1) h1
  have h3 := heap_set (i := 2) (v := c2) h2
  have h4 := heap_set (i := 3) (v := c3) h3
  have h5 := heap_set (i := 4) (v := c4) h4
  have h6 := heap_set (i := 5) (v := c5) h5
  unfold laid6
  rw [h6]
  rfl
theorem plan_cells {w : World} {B : Nat} (h : w.heap[B]? = some (.cells noPlan 87 (0, 0))) :
    (w.cell? ⟨B, 0, none⟩ = some (.bool false) ∧ w.cell? ⟨B, 1, none⟩ = some (.int .i64 0) ∧ w.cell? ⟨B, 2, none⟩ = some (.int .i64 0) ∧ w.cell? ⟨B, 3, none⟩ = some (.int .i64 0) ∧ w.cell? ⟨B, 4, none⟩ = some (.int .i64 0) ∧ w.cell? ⟨B, 5, none⟩ = some (.int .i64 0)) ∧
    (w.frozen? ⟨B, 0, none⟩ = false ∧ w.frozen? ⟨B, 1, none⟩ = false ∧ w.frozen? ⟨B, 2, none⟩ = false ∧ w.frozen? ⟨B, 3, none⟩ = false ∧ w.frozen? ⟨B, 4, none⟩ = false ∧ w.frozen? ⟨B, 5, none⟩ = false) :=
  ⟨⟨by rw [cell_at h]; rfl, by rw [cell_at h]; rfl, by rw [cell_at h]; rfl, by rw [cell_at h]; rfl, by rw [cell_at h]; rfl, by rw [cell_at h]; rfl⟩, frozen_at h 0, frozen_at h 1, frozen_at h 2, frozen_at h 3, frozen_at h 4, frozen_at h 5⟩
set_option maxRecDepth 10000 in
set_option maxHeartbeats 1600000 in
theorem next_go (w : World) (s : Nat) (v : Value) (n : Int) (t : List Int) (m : Nat) (b : Bg) (h : NLst w v (n :: t)) (hg : LGo s b n t m) (hs : 1 ≤ s) (hs16 : s ≤ 16) (hw : ∀ x ∈ n :: t, W64 x) :
    Calls Try.prog 30 #[.int .i64 (s : Int), v] w fun e w' => e = .returned (.agg (planC s b)) ∧ Below w.heap.size w w' := by
  obtain ⟨a, cap, rfl, _⟩ := id h
  obtain ⟨g, rfl, hgl, hc⟩ := h.cell (by simp)
  have c0 : w.cell? ⟨g, 0, none⟩ = some (.int .i64 n) := hc 0 (by simp)
  have HC : Hid (∀ q, q < t.length → w.cell? ⟨g, q + 1, none⟩ = some (.int .i64 (t.getD q 0))) := fun q hq => hc (q + 1) (by simp; omega)
  have hn1 := hg.n1
  obtain ⟨hn2, hn3⟩ := hw n (by simp)
  have hd : decide (n < 1) = false := by simp; omega
  have hle := hg.le
  have HV : Hid (∀ q, q < t.length → ∀ w, Calls Try.prog 43 #[.int .i64 (t.getD q 0), .int .i64 (n - (q : Int))] w fun e w' => e = .returned (.bool (overV (t.getD q 0) (n - (q : Int)))) ∧ w' = w) := fun q hq w => by
    have hm : t.getD q 0 ∈ n :: t := by simp only [List.getD_eq_getElem?_getD]; rw [List.getElem?_eq_getElem hq]; simp
    exact rover_any _ _ (hw _ hm).1 (hw _ hm).2 w
  have HN : Hid (∀ q, q < m → overV (t.getD q 0) (n - (q : Int)) = false) := hg.not
  have HCS : Hid ((m = t.length ∧ ((b = ⟨1, n, n - (m : Int)⟩ ∧ 1 ≤ n - (m : Int) ∧ m < s) ∨ (b = ⟨2, n, n - (m : Int)⟩ ∧ (n - (m : Int) < 1 ∨ m = s)))) ∨ (m + 1 = t.length ∧ overV (t.getD m 0) (n - (m : Int)) = true ∧ b = ⟨2, n, n - (m : Int)⟩)) := hg.c
  have hmt : m ≤ t.length := by rcases hg.c with ⟨h, _⟩ | ⟨h, _⟩ <;> omega
  have HSL : Hid (∀ x w, Calls Try.prog 44 #[.int .i64 x, .int .i64 (s : Int)] w fun e w' => e = .returned (.int .i64 (slotV x s)) ∧ w' = w) := fun x w => rslot_any x s w
  clear h hc hg hw
  have hlen : (n :: t).length = t.length + 1 := by simp
  rw [hlen]
  generalize hk : t.length = k at *
  clear hlen
  have hz0 : ((k : Int) + 1 == 0) = false := by simp; omega
  go_enter Try.func30, Try.ntmps30
  go_wp2
  go_loopw [6] (fun iv wr => ∃ q : Nat, q ≤ m ∧ iv = .int .i64 ((q : Int) + 1) ∧ wr.heap[w.heap.size]? = some (.cells noPlan 87 (0, 0)) ∧ Below w.heap.size w wr) (fun iv _ => (m + 1 - (intOf iv).toNat))
  case atStart => exact ⟨0, Nat.zero_le _, by go_num, heap_alloc_new _ _, below_a1 _ _⟩
  case round =>
    obtain ⟨q, hq, rfl, hr, hb⟩ := hrel
    have HR : Hid (wr.heap[w.heap.size]? = some (.cells noPlan 87 (0, 0))) := hr
    have HB : Hid (Below w.heap.size w wr) := hb
    clear hr hb
    by_cases hlt : q < k
    · have d1 : decide ((q : Int) + 1 < ((k + 1 : Nat) : Int)) = true := by simp; omega
      have hcq : wr.cell? ⟨g, q + 1, none⟩ = some (.int .i64 (t.getD q 0)) := cell_later HB.out hgl (HC.out q hlt)
      have HO := HV.out q hlt
      by_cases hqm : q < m
      · rw [HN.out q hqm] at HO
        have HO2 : Hid (∀ w, Calls Try.prog 43 #[.int .i64 (t.getD q 0), .int .i64 (n - (q : Int))] w fun e w' => e = .returned (.bool false) ∧ w' = w) := HO
        clear HO
        generalize t.getD q 0 = z at *
        go_wp2_with fail
        refine (HO2.out _).mono ?_
        rintro e w' ⟨rfl, rfl⟩
        go_wp2
        go_roundw
        case rel => exact ⟨q + 1, by omega, by go_num, HR.out, HB.out⟩
        case measure => simp [intOf]; omega
      · obtain rfl : q = m := by omega
        obtain ⟨ho, hb2⟩ : overV (t.getD q 0) (n - (q : Int)) = true ∧ b = ⟨2, n, n - (q : Int)⟩ := by
          rcases HCS.out with ⟨h, _⟩ | ⟨_, h⟩
          · omega
          · exact h
        rw [ho] at HO
        have HO2 : Hid (∀ w, Calls Try.prog 43 #[.int .i64 (t.getD q 0), .int .i64 (n - (q : Int))] w fun e w' => e = .returned (.bool true) ∧ w' = w) := HO
        obtain ⟨⟨p0, p1, p2, p3, p4, p5⟩, f0, f1, f2, f3, f4, f5⟩ := plan_cells HR.out
        have hB := heap_lt HR.out
        subst hb2
        have HP : Hid (planC s ⟨2, n, n - (q : Int)⟩ = #[.bool true, .int .i64 (n - (q : Int)), .int .i64 n, .int .i64 0, .int .i64 0, .int .i64 0]) := rfl
        clear HO ho HCS
        generalize t.getD q 0 = z at *
        go_wp2_with fail
        refine (HO2.out _).mono ?_
        rintro e w' ⟨rfl, rfl⟩
        go_wp2
        exact ret_plan rfl rfl (plan_set HR.out _ _ _ _ _ _) rfl rfl ⟨by rw [HP.out], below6 HB.out (Nat.le_refl _) _ _ _ _ _ _⟩
    · obtain rfl : q = k := by omega
      obtain rfl : q = m := by omega
      have d1 : decide ((q : Int) + 1 < ((q + 1 : Nat) : Int)) = false := by simp
      obtain ⟨⟨p0, p1, p2, p3, p4, p5⟩, f0, f1, f2, f3, f4, f5⟩ := plan_cells HR.out
      have hB := heap_lt HR.out
      have hcs : (b = ⟨1, n, n - (q : Int)⟩ ∧ 1 ≤ n - (q : Int) ∧ q < s) ∨ (b = ⟨2, n, n - (q : Int)⟩ ∧ (n - (q : Int) < 1 ∨ q = s)) := by
        rcases HCS.out with ⟨_, h⟩ | ⟨h, _⟩
        · exact h
        · omega
      clear HCS HC HV HN
      rcases hcs with ⟨rfl, g1, g2⟩ | ⟨rfl, g1⟩
      · have d2 : decide (n - (q : Int) < 1) = false := by simp; omega
        have d3 : ((q : Int) + 1 == (s : Int) + 1) = false := by simp; omega
        have HP : Hid (planC s ⟨1, n, n - (q : Int)⟩ = #[.bool false, .int .i64 0, .int .i64 0, .int .i64 2, .int .i64 (slotV (n - (q : Int)) s), .int .i64 0]) := rfl
        have HS2 : Hid (∀ w, Calls Try.prog 44 #[.int .i64 (n - (q : Int)), .int .i64 (s : Int)] w fun e w' => e = .returned (.int .i64 (slotV (n - (q : Int)) s)) ∧ w' = w) := HSL.out _
        generalize slotV (n - (q : Int)) s = sl at *
        go_wp2_with fail
        refine (HS2.out _).mono ?_
        rintro e w' ⟨rfl, rfl⟩
        go_wp2
        exact ret_plan rfl rfl (plan_set HR.out _ _ _ _ _ _) rfl rfl ⟨by rw [HP.out], below6 HB.out (Nat.le_refl _) _ _ _ _ _ _⟩
      · have HP : Hid (planC s ⟨2, n, n - (q : Int)⟩ = #[.bool true, .int .i64 (n - (q : Int)), .int .i64 n, .int .i64 0, .int .i64 0, .int .i64 0]) := rfl
        by_cases g2 : n - (q : Int) < 1
        · have d2 : decide (n - (q : Int) < 1) = true := by simpa using g2
          clear g1 g2
          go_wp2
          exact ret_plan rfl rfl (plan_set HR.out _ _ _ _ _ _) rfl rfl ⟨by rw [HP.out], below6 HB.out (Nat.le_refl _) _ _ _ _ _ _⟩
        · have d2 : decide (n - (q : Int) < 1) = false := by simpa using g2
          obtain rfl : q = s := by omega
          clear g1
          go_wp2
          exact ret_plan rfl rfl (plan_set HR.out _ _ _ _ _ _) rfl rfl ⟨by rw [HP.out], below6 HB.out (Nat.le_refl _) _ _ _ _ _ _⟩

theorem next_any {w : World} {s : Nat} {v : Value} {b : Bg} {l : List Int} (h : NLst w v l) (hg : LOk s b l) :
    Calls Try.prog 30 #[.int .i64 (s : Int), v] w fun e w' => e = .returned (.agg (planC s b)) ∧ Below w.heap.size w w' := by
  rcases hg.c with ⟨rfl, rfl⟩ | ⟨n, rfl, h1, rfl⟩ | ⟨n, t, m, rfl, h1⟩
  · obtain ⟨a, cap, rfl, _⟩ := h
    exact next_nil w s cap a
  · exact next_low w s v n h h1
  · exact next_go w s v n t m b h h1 hg.s1 hg.s16 hg.w
end Go.Proofs.Ytcckdjmbjghbdaa
