/- The program's queue (layer 16): slots, wants, what a put wants. -/
import Derived.Test.YtkikogalaejnlabQuM
import Derived.RegionTactic
import Derived.BigRegion
import Derived.Deep.RegionHeld3
namespace Go.Proofs.Ytkikogalaejnlab.Qu
open Go.ChangeShapes Go.WideShapes Go.ChangeAt Go.RowKit
attribute [local go_sem ↓] Go.wp_at_zero Go.wp_at_succ

def mcC (m : Mc) : Array Value := #[.int .i64 m.base, .int .i64 m.most, .int .i64 m.call, .int .i64 m.told, .int .i64 m.last.kind, .int .i64 m.last.cell, .int .i64 m.last.val, .int .i64 m.last.code, .int .i64 m.first, .int .i64 m.len, .int .i64 m.val]
/-- What is so of each call under way. -/
def OkM (m : Mc) : Prop := (0 ≤ m.base ∧ m.base ≤ 1024) ∧ (0 ≤ m.most ∧ m.most ≤ 16) ∧ 0 ≤ m.told ∧ m.told ≤ 6 ∧ (m.last.kind = 6 ∨ m.told ≤ 5)
/-- A call under way in a block of its own. -/
def McAt (w : World) (X : Nat) (F : List Nat) (m : Mc) : Prop := F = [X] ∧ w.heap[X]? = some (.cells (mcC m) 46 (0, 0)) ∧ OkM m
theorem cap_any (w : World) (m : Int) : Calls Try.prog 14 #[.int .i64 m] w fun e w' => e = .returned (.bool (decide (0 ≤ m) && decide (m ≤ 16))) ∧ w' = w := by
  by_cases h1 : 0 ≤ m
  · by_cases h2 : m ≤ 16
    · have d1 : decide (0 ≤ m) = true := by simpa using h1
      have d2 : decide (m ≤ 16) = true := by simpa using h2
      clear h1 h2
      go_enter Try.func14, Try.ntmps14
      go_wp2
      go_ret
      exact ⟨by simp [d1, d2], rfl⟩
    · have d1 : decide (0 ≤ m) = true := by simpa using h1
      have d2 : decide (m ≤ 16) = false := by simpa using h2
      clear h1 h2
      go_enter Try.func14, Try.ntmps14
      go_wp2
      go_ret
      exact ⟨by simp [d1, d2], rfl⟩
  · have d1 : decide (0 ≤ m) = false := by simpa using h1
    clear h1
    go_enter Try.func14, Try.ntmps14
    go_wp2
    go_ret
    exact ⟨by simp [d1], rfl⟩
theorem ar_1 {c : Int} (n : Nat) (h : c = 3) : ((n : Int) == 1) = decide (arV c = n) := by
  subst h
  rw [Bool.eq_iff_iff]
  simp [arV]
  omega
theorem ar_2 {c : Int} (n : Nat) (h : c = 2 ∨ c = 5) : ((n : Int) == 0) = decide (arV c = n) := by
  rcases h with rfl | rfl
  · rw [Bool.eq_iff_iff]
    simp [arV]
    omega
  · rw [Bool.eq_iff_iff]
    simp [arV]
    omega
theorem ar_3 {c : Int} (n : Nat) (h1 : c ≠ 3) (h2 : c ≠ 2) (h3 : c ≠ 5) : false = decide (arV c = n) := by
  have : ¬ arV c = n := by
    unfold arV
    rw [if_neg h1, if_neg h2, if_neg h3]
    omega
  simp [this]
theorem takes_any (w : World) (c : Int) (a : Option Addr) (n cap : Nat) : Calls Try.prog 15 #[.int .i64 c, .slice a n cap] w fun e w' => e = .returned (.bool (decide (arV c = n))) ∧ w' = w := by
  by_cases h1 : c = 3
  · have HE : Hid (((n : Int) == 1) = decide (arV c = n)) := ar_1 n h1
    generalize decide (arV c = n) = d at *
    subst h1
    go_enter Try.func15, Try.ntmps15
    go_wp2
    go_ret
    exact ⟨by rw [← HE.out]; rfl, rfl⟩
  · by_cases h2 : c = 2
    · have HE : Hid (((n : Int) == 0) = decide (arV c = n)) := ar_2 n (Or.inl h2)
      generalize decide (arV c = n) = d at *
      subst h2
      go_enter Try.func15, Try.ntmps15
      go_wp2
      go_ret
      exact ⟨by rw [← HE.out]; rfl, rfl⟩
    · by_cases h3 : c = 5
      · have HE : Hid (((n : Int) == 0) = decide (arV c = n)) := ar_2 n (Or.inr h3)
        generalize decide (arV c = n) = d at *
        subst h3
        go_enter Try.func15, Try.ntmps15
        go_wp2
        go_ret
        exact ⟨by rw [← HE.out]; rfl, rfl⟩
      · have HE : Hid (false = decide (arV c = n)) := ar_3 n h1 h2 h3
        generalize decide (arV c = n) = d at *
        have e1 : (c == 3) = false := by simpa using h1
        have e2 : (c == 2) = false := by simpa using h2
        have e3 : (c == 5) = false := by simpa using h3
        clear h1 h2 h3
        go_enter Try.func15, Try.ntmps15
        go_wp2
        go_ret
        exact ⟨by rw [← HE.out]; rfl, rfl⟩
theorem uw_wrap (f : Int) : IntKind.u64.wrap f = uW f := by
  simp [IntKind.wrap, IntKind.signed, IntKind.bits, uW]
theorem beh_math (f k n : Int) (hn : 0 < n ∧ n ≤ 16) : wrap64 ((IntKind.u64.wrap ((IntKind.u64.wrap f).tmod n + (IntKind.u64.wrap k).tmod n)).tmod n) = behV f k n := by
  rw [uw_wrap f, uw_wrap k]
  have h1 : 0 ≤ uW f := Int.emod_nonneg _ (by decide)
  have h2 : 0 ≤ uW k := Int.emod_nonneg _ (by decide)
  rw [Int.tmod_eq_emod_of_nonneg h1, Int.tmod_eq_emod_of_nonneg h2]
  obtain ⟨h3, h4⟩ := uw_pos (f := f) hn.1
  obtain ⟨h5, h6⟩ := uw_pos (f := k) hn.1
  have h7 : IntKind.u64.wrap (uW f % n + uW k % n) = uW f % n + uW k % n := by
    rw [uw_wrap]
    generalize uW f % n = x at *
    generalize uW k % n = y at *
    unfold uW
    omega
  rw [h7, Int.tmod_eq_emod_of_nonneg (by omega)]
  obtain ⟨h8, h9⟩ := beh_lt (f := f) (k := k) hn.1
  unfold behV at *
  generalize (uW f % n + uW k % n) % n = x at *
  unfold wrap64
  omega
theorem slot_any (w : World) (f k n : Int) (hn : 0 < n ∧ n ≤ 16) : Calls Try.prog 26 #[.int .i64 f, .int .i64 k, .int .i64 n] w fun e w' => e = .returned (.int .i64 (behV f k n)) ∧ Below w.heap.size w w' := by
  have HB : Hid (wrap64 ((IntKind.u64.wrap ((IntKind.u64.wrap f).tmod n + (IntKind.u64.wrap k).tmod n)).tmod n) = behV f k n) := beh_math f k n hn
  go_enter Try.func26, Try.ntmps26
  go_wp2_with fail
  go_quiet (fail)
  go_wp2_with fail
  go_ret
  exact ⟨by rw [← HB.out]; rfl, below_drawn (Below.refl _ _) _⟩
theorem cell_any (w : World) (f k n : Int) (hn : 0 < n ∧ n ≤ 16) : Calls Try.prog 18 #[.int .i64 f, .int .i64 k, .int .i64 n] w fun e w' => e = .returned (.int .i64 (2 + behV f k n)) ∧ Below w.heap.size w w' := by
  have HB : Hid (∀ w : World, Calls Try.prog 26 #[.int .i64 f, .int .i64 k, .int .i64 n] w fun e w' => e = .returned (.int .i64 (behV f k n)) ∧ Below w.heap.size w w') := fun w => slot_any w f k n hn
  obtain ⟨h8, h9⟩ := beh_lt (f := f) (k := k) hn.1
  have hw : wrap64 (2 + behV f k n) = 2 + behV f k n := by unfold wrap64; omega
  generalize behV f k n = z at *
  have h16 : z < 16 := by omega
  clear hn h9
  go_enter Try.func18, Try.ntmps18
  go_wp2_with fail
  refine (HB.out _).mono ?_
  rintro e w1 ⟨rfl, hb⟩
  have HW : Hid (Below w.heap.size w w1) := hb
  clear hb
  go_wp2_with fail
  go_ret
  exact ⟨rfl, HW.out⟩
theorem done_any (w : World) (v : Int) : Calls Try.prog 25 #[.int .i64 v] w fun e w' => e = .returned (.agg (wnC (endW v 0))) ∧ Below w.heap.size w w' := by
  go_enter Try.func25, Try.ntmps25
  go_wp2
  exact ret_wn rfl rfl (heap_alloc_new _ _) rfl rfl ⟨rfl, below_a1 _ _⟩
theorem ref_any (w : World) (c : Int) (hc : c ≠ 0) : Calls Try.prog 27 #[.int .i64 c] w fun e w' => e = .returned (.agg (wnC (endW 0 c))) ∧ Below w.heap.size w w' := by
  have HE : Hid (endW 0 c = ⟨6, 0, 0, c⟩) := by unfold endW; rw [if_neg hc]; exact rfl
  clear hc
  go_enter Try.func27, Try.ntmps27
  go_wp2
  exact ret_wn rfl rfl (heap_alloc_new _ _) rfl rfl ⟨by rw [HE.out]; rfl, below_a1 _ _⟩
theorem read_any {w : World} {X : Nat} {F : List Nat} {m : Mc} (h : McAt w X F m) (c : Int) (hc : 0 ≤ c ∧ c ≤ 100) : Calls Try.prog 22 #[.pointer (some ⟨X, 0, none⟩), .int .i64 c] w fun e w' => e = .returned (.agg (wnC (readW (m.base + c)))) ∧ Below w.heap.size w w' := by
  have c0 : w.cell? ⟨X, 0, none⟩ = some (.int .i64 m.base) := by rw [cell_at h.2.1]; rfl
  have hx : X < w.heap.size := heap_lt h.2.1
  obtain ⟨hb, _⟩ := h.2.2
  have hw : wrap64 (m.base + c) = m.base + c := by unfold wrap64; omega
  generalize m.base = b at *
  clear h hb hc
  go_enter Try.func22, Try.ntmps22
  go_wp2_with fail
  exact ret_wn rfl rfl (heap_alloc_new _ _) rfl rfl ⟨rfl, below_a1 _ _⟩
theorem write_any {w : World} {X : Nat} {F : List Nat} {m : Mc} (h : McAt w X F m) (c v : Int) (hc : 0 ≤ c ∧ c ≤ 100) : Calls Try.prog 28 #[.pointer (some ⟨X, 0, none⟩), .int .i64 c, .int .i64 v] w fun e w' => e = .returned (.agg (wnC (putW (m.base + c) v))) ∧ Below w.heap.size w w' := by
  have c0 : w.cell? ⟨X, 0, none⟩ = some (.int .i64 m.base) := by rw [cell_at h.2.1]; rfl
  have hx : X < w.heap.size := heap_lt h.2.1
  obtain ⟨hb, _⟩ := h.2.2
  have hw : wrap64 (m.base + c) = m.base + c := by unfold wrap64; omega
  generalize m.base = b at *
  clear h hb hc
  go_enter Try.func28, Try.ntmps28
  go_wp2_with fail
  exact ret_wn rfl rfl (heap_alloc_new _ _) rfl rfl ⟨rfl, below_a1 _ _⟩
theorem McAt.cells {w : World} {X : Nat} {F : List Nat} {m : Mc} (h : McAt w X F m) : (w.cell? ⟨X, 0, none⟩ = some (.int .i64 m.base) ∧ w.cell? ⟨X, 1, none⟩ = some (.int .i64 m.most) ∧ w.cell? ⟨X, 2, none⟩ = some (.int .i64 m.call) ∧ w.cell? ⟨X, 3, none⟩ = some (.int .i64 m.told)) ∧
    (w.cell? ⟨X, 4, none⟩ = some (.int .i64 m.last.kind) ∧ w.cell? ⟨X, 5, none⟩ = some (.int .i64 m.last.cell) ∧ w.cell? ⟨X, 6, none⟩ = some (.int .i64 m.last.val) ∧ w.cell? ⟨X, 7, none⟩ = some (.int .i64 m.last.code)) ∧ w.cell? ⟨X, 8, none⟩ = some (.int .i64 m.first) ∧ w.cell? ⟨X, 9, none⟩ = some (.int .i64 m.len) ∧ w.cell? ⟨X, 10, none⟩ = some (.int .i64 m.val) :=
  ⟨⟨by rw [cell_at h.2.1]; rfl, by rw [cell_at h.2.1]; rfl, by rw [cell_at h.2.1]; rfl, by rw [cell_at h.2.1]; rfl⟩, ⟨by rw [cell_at h.2.1]; rfl, by rw [cell_at h.2.1]; rfl, by rw [cell_at h.2.1]; rfl, by rw [cell_at h.2.1]; rfl⟩, by rw [cell_at h.2.1]; rfl, by rw [cell_at h.2.1]; rfl, by rw [cell_at h.2.1]; rfl⟩
theorem McAt.keep {w w' : World} {X : Nat} {F G : List Nat} {m : Mc} (h : McAt w X F m) (k : Keep G w w') (hx : ∀ b ∈ F, b ∉ G) : McAt w' X F m := ⟨h.1, by rw [k.block _ (heap_lt h.2.1) (hx X (by rw [h.1]; simp))]; exact h.2.1, h.2.2⟩
theorem McAt.later {w w' : World} {X : Nat} {F : List Nat} {m : Mc} (h : McAt w X F m) (k : Below w.heap.size w w') : McAt w' X F m := h.keep (Keep.of_below k []) (by simp)
theorem McAt.lt {w : World} {X : Nat} {F : List Nat} {m : Mc} (h : McAt w X F m) : ∀ b ∈ F, b < w.heap.size := fun b hb => by
  rw [h.1] at hb
  simp at hb
  rw [hb]
  exact heap_lt h.2.1
abbrev z4 : Array Value := #[.int .i64 0, .int .i64 0, .int .i64 0, .int .i64 0]
/-- A want is handed back. -/
def Tells (w : World) (x : Wn) (e : Ending) (w' : World) : Prop := ∃ cs, Hid (wnC x = cs) ∧ cs.size = 4 ∧ e = .returned (.agg cs) ∧ Below w.heap.size w w'
theorem tells_of {w : World} {x : Wn} (e : Ending) (w' : World) (h : e = .returned (.agg (wnC x)) ∧ Below w.heap.size w w') : Tells w x e w' := ⟨wnC x, rfl, rfl, h.1, h.2⟩
theorem of_tells {w : World} {x : Wn} (e : Ending) (w' : World) (h : Tells w x e w') : e = .returned (.agg (wnC x)) ∧ Below w.heap.size w w' := by
  obtain ⟨cs, h1, _, h3, h4⟩ := h
  exact ⟨by rw [h1.out]; exact h3, h4⟩
/-- A function whose answer's variable is laid, and the machine stays. -/
def Mid (w w2 : World) : Prop := Below (w.alloc (.cells z4 24)).heap.size (w.alloc (.cells z4 24)) w2
theorem Mid.on {w w2 w3 : World} (h : Mid w w2) (hb : Below w2.heap.size w2 w3) : Mid w w3 := h.trans (hb.mono h.size)
theorem Mid.mach {w w2 : World} (h : Mid w w2) {X : Nat} {F : List Nat} {m : Mc} (hm : McAt w X F m) : McAt w2 X F m := hm.later (below_next h)
theorem bl_drew1 (w : World) : Below w.heap.size w w.drew := below_drawn (Below.refl _ _) 1
theorem Mid.drawn (w : World) (n : Nat) : Mid w ((w.alloc (.cells z4 24)).drewN n) := below_drawn (Below.refl _ _) _
theorem Mid.first (w : World) : Mid w (w.alloc (.cells z4 24)) := Below.refl _ _
/-- The answer is laid into its variable. -/
theorem Mid.put {w w4 : World} {X : Nat} {F : List Nat} {m : Mc} (h : Mid w w4) (hm : McAt w X F m) {x : Wn} {cs : Array Value} (hcs : Hid (wnC x = cs)) : ∃ w5, (storeCells ⟨w.heap.size, 0, none⟩ cs.toList 0).run Try.prog w4 = .ok () w5 ∧ McAt w5 X F m ∧ Hid (w5.heap[w.heap.size]? = some (.cells cs 24 (0, 0)) ∧ Below w.heap.size w w5) := by
  have hX := heap_lt hm.2.1
  have hr := row_next h
  have hb := below_next h
  rw [← hcs.out]
  have hm4 := hm.later hb
  refine ⟨w4.setRow w.heap.size (wnC x), store_wn hr rfl rfl (wnC_one x), ⟨hm.1, ?_, hm.2.2⟩, setRow_heap _ _ _ _ _ _ hr, below_row hb _ (Nat.le_refl _) _⟩
  rw [setRow_other _ _ _ _ (by omega)]
  exact hm4.2.1
theorem fput_any {w : World} {X : Nat} {F : List Nat} {m : Mc} (h : McAt w X F m) : Calls Try.prog 23 #[.pointer (some ⟨X, 0, none⟩)] w (Tells w (putT m)) := by
  have HW : Hid (∀ (w : World) (c v : Int), McAt w X F m → 0 ≤ c ∧ c ≤ 100 → Calls Try.prog 28 #[.pointer (some ⟨X, 0, none⟩), .int .i64 c, .int .i64 v] w (Tells w (putW (m.base + c) v))) := fun w c v h hc => (write_any h c v hc).mono tells_of
  have HD : Hid (∀ w : World, Calls Try.prog 25 #[.int .i64 0] w (Tells w (endW 0 0))) := fun w => (done_any w 0).mono tells_of
  have HF : Hid (∀ w : World, Calls Try.prog 27 #[.int .i64 2] w (Tells w (endW 0 2))) := fun w => (ref_any w 2 (by decide)).mono tells_of
  have HC : Hid (0 < m.most → ∀ w : World, Calls Try.prog 18 #[.int .i64 m.first, .int .i64 m.len, .int .i64 m.most] w fun e w' => e = .returned (.int .i64 (2 + behV m.first m.len m.most)) ∧ Below w.heap.size w w') := fun hn w => cell_any w _ _ _ ⟨hn, h.2.2.2.1.2⟩
  have hx : X < w.heap.size := heap_lt h.2.1
  have HM : Hid (McAt w X F m) := h
  obtain ⟨⟨c0, c1, c2, c3⟩, _, c8, c9, c10⟩ := h.cells
  obtain ⟨_, hm, _⟩ := h.2.2
  obtain ⟨y, hy⟩ : ∃ y, putT m = y := ⟨_, rfl⟩
  rw [hy]
  unfold putT at hy
  have HMS : Hid (m.most ≤ 16) := hm.2
  by_cases hf : uW m.len < uW m.most
  · rw [if_pos hf] at hy
    have HN : Hid (0 < m.most) := full_pos hm hf
    have d1 : decide (IntKind.u64.wrap m.most ≤ IntKind.u64.wrap m.len) = false := by rw [uw_wrap, uw_wrap]; simpa using hf
    clear hf hm
    go_enter Try.func23, Try.ntmps23
    go_wp2_with fail
    go_quiet (fail)
    obtain ⟨w2, hw2⟩ : ∃ w2, w2 = (w.alloc (.cells z4 24)).drewN nq := ⟨_, rfl⟩
    have HB2 : Hid (Mid w w2) := by rw [Hid, hw2]; exact Mid.drawn _ _
    obtain ⟨⟨e0, e1, e2, e3⟩, _, e8, e9, e10⟩ := (HB2.out.mach h).cells
    have hx2 : X < w2.heap.size := heap_lt (HB2.out.mach h).2.1
    rw [← hw2]
    clear hw2 c0 c1 c2 c3 c8 c9 c10 h
    by_cases h2 : m.told = 2
    · rw [if_pos h2] at hy
      have HY : Hid (putW (m.base + (2 + behV m.first m.len m.most)) m.val = y) := hy
      rw [h2] at e3
      have HC' := HC.out HN.out
      have HBH : Hid (0 ≤ 2 + behV m.first m.len m.most ∧ 2 + behV m.first m.len m.most ≤ 100) := by have := beh_lt (f := m.first) (k := m.len) HN.out; have := HMS.out; exact ⟨by omega, by omega⟩
      generalize 2 + behV m.first m.len m.most = z at *
      clear hy h2 HC
      go_wp2_with fail
      go_region_held3 (fun w' => w'.cell? ⟨X, 1, none⟩ = some (.int .i64 m.most) ∧ w'.cell? ⟨X, 8, none⟩ = some (.int .i64 m.first) ∧ w'.cell? ⟨X, 9, none⟩ = some (.int .i64 m.len) ∧ w'.cell? ⟨X, 10, none⟩ = some (.int .i64 m.val)) (first | go_keep | exact hS | exact hS5) (first
        | (go_at_call 18; refine (HC' _).mono ?_; rintro e w3 ⟨rfl, hb3⟩; have hM3 : Mid w w3 := HB2.out.on (below_then (bl_drew1 _) hb3); have hS : w3.cell? ⟨X, 1, none⟩ = some (.int .i64 m.most) ∧ w3.cell? ⟨X, 8, none⟩ = some (.int .i64 m.first) ∧ w3.cell? ⟨X, 9, none⟩ = some (.int .i64 m.len) ∧ w3.cell? ⟨X, 10, none⟩ = some (.int .i64 m.val) := ⟨(hM3.mach HM.out).cells.1.2.1, (hM3.mach HM.out).cells.2.2⟩)
        | (go_at_call 28; refine (HW.out _ _ _ (hM3.mach HM.out) HBH.out).mono ?_; rintro e w4 ⟨cs, hcs, hz, rfl, hb4⟩; have hS : w4.cell? ⟨X, 1, none⟩ = some (.int .i64 m.most) ∧ w4.cell? ⟨X, 8, none⟩ = some (.int .i64 m.first) ∧ w4.cell? ⟨X, 9, none⟩ = some (.int .i64 m.len) ∧ w4.cell? ⟨X, 10, none⟩ = some (.int .i64 m.val) := ⟨((hM3.on hb4).mach HM.out).cells.1.2.1, ((hM3.on hb4).mach HM.out).cells.2.2⟩; obtain ⟨w5, hs5, hm5, hr5⟩ := (hM3.on hb4).put HM.out hcs; have hS5 : w5.cell? ⟨X, 1, none⟩ = some (.int .i64 m.most) ∧ w5.cell? ⟨X, 8, none⟩ = some (.int .i64 m.first) ∧ w5.cell? ⟨X, 9, none⟩ = some (.int .i64 m.len) ∧ w5.cell? ⟨X, 10, none⟩ = some (.int .i64 m.val) := ⟨hm5.cells.1.2.1, hm5.cells.2.2⟩))
      go_wp2_with fail
      exact ret_wn rfl rfl hr5.out.1 hz rfl ⟨cs, by rw [Hid, ← HY.out]; exact hcs, hz, rfl, hr5.out.2⟩
    · rw [if_neg h2] at hy
      have f2 : (m.told == 2) = false := by simpa using h2
      by_cases h3 : m.told = 3
      · rw [if_pos h3] at hy
        have HY : Hid (putW (m.base + 1) (wrap64 (m.len + 1)) = y) := hy
        rw [h3] at e3
        clear hy h2 h3 HC f2
        go_wp2_with fail
        refine (HW.out _ _ _ (HB2.out.mach HM.out) (by decide)).mono ?_
        rintro e w4 ⟨cs, hcs, hz, rfl, hb4⟩
        obtain ⟨w5, hs5, hm5, hr5⟩ := (HB2.out.on hb4).put HM.out hcs
        clear hb4 hm5
        go_wp2_with fail
        exact ret_wn rfl rfl hr5.out.1 hz rfl ⟨cs, by rw [Hid, ← HY.out]; exact hcs, hz, rfl, hr5.out.2⟩
      · rw [if_neg h3] at hy
        have HY : Hid (endW 0 0 = y) := hy
        have f3 : (m.told == 3) = false := by simpa using h3
        clear hy h2 h3 HC
        go_wp2_with fail
        refine (HD.out _).mono ?_
        rintro e w4 ⟨cs, hcs, hz, rfl, hb4⟩
        obtain ⟨w5, hs5, hm5, hr5⟩ := (HB2.out.on hb4).put HM.out hcs
        clear hb4 hm5
        go_wp2_with fail
        exact ret_wn rfl rfl hr5.out.1 hz rfl ⟨cs, by rw [Hid, ← HY.out]; exact hcs, hz, rfl, hr5.out.2⟩
  · rw [if_neg hf] at hy
    have HY : Hid (endW 0 2 = y) := hy
    have d1 : decide (IntKind.u64.wrap m.most ≤ IntKind.u64.wrap m.len) = true := by rw [uw_wrap, uw_wrap]; simpa using hf
    clear hf hm
    go_enter Try.func23, Try.ntmps23
    go_wp2_with fail
    go_quiet (fail)
    obtain ⟨w2, hw2⟩ : ∃ w2, w2 = (w.alloc (.cells z4 24)).drewN nq := ⟨_, rfl⟩
    have HB2 : Hid (Mid w w2) := by rw [Hid, hw2]; exact Mid.drawn _ _
    rw [← hw2]
    clear hw2 c0 c1 c2 c3 c8 c9 c10 h hy
    go_wp2_with fail
    refine (HF.out _).mono ?_
    rintro e w4 ⟨cs, hcs, hz, rfl, hb4⟩
    obtain ⟨w5, hs5, hm5, hr5⟩ := (HB2.out.on hb4).put HM.out hcs
    clear hb4 hm5
    go_wp2_with fail
    exact ret_wn rfl rfl hr5.out.1 hz rfl ⟨cs, by rw [Hid, ← HY.out]; exact hcs, hz, rfl, hr5.out.2⟩
end Go.Proofs.Ytkikogalaejnlab.Qu
