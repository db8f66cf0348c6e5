/- The program's chain (layer 18): a call under way; New, Next. -/
import Derived.Test.YtaffkcliepfcmaaChA
namespace Go.Proofs.Ytaffkcliepfcmaa.Ch
open Go.ChangeShapes Go.WideShapes Go.ChangeAt Go.RowKit
attribute [local go_sem ↓] Go.wp_at_zero Go.wp_at_succ

def mcC (f : Value) (x : Wn) : Array Value := #[f, .int .i64 x.kind, .int .i64 x.cell, .int .i64 x.val, .int .i64 x.code]
/-- A call under way, as it lies: what it told last, and a closure for what comes next. -/
def McAt (w : World) (X : Nat) (F : List Nat) (m : Mc) : Prop := ∃ G f, F = X :: G ∧ X ∉ G ∧ (∀ b ∈ G, b < w.heap.size) ∧ w.heap[X]? = some (.cells (mcC f m.last) 59 (0, 0)) ∧ (m.g = none → f = .nilFunc) ∧ ∀ g, m.g = some g → Fv encI An g G w f
theorem McAt.keep {w w' : World} {X : Nat} {F H : List Nat} {m : Mc} (h : McAt w X F m) (k : Keep H w w') (hx : ∀ b ∈ F, b ∉ H) : McAt w' X F m := by
  obtain ⟨G, f, rfl, hn, hl, hX, h0, h1⟩ := h
  have hu : Un G w w' := ⟨k.size, fun b hb => k.block b (hl b hb) (hx b (List.mem_cons_of_mem _ hb))⟩
  exact ⟨G, f, rfl, hn, fun b hb => Nat.lt_of_lt_of_le (hl b hb) k.size, by rw [k.block _ (heap_lt hX) (hx X List.mem_cons_self)]; exact hX, h0, fun g hg => (h1 g hg).un hu⟩
theorem McAt.later {w w' : World} {X : Nat} {F : List Nat} {m : Mc} (h : McAt w X F m) (k : Below w.heap.size w w') : McAt w' X F m := h.keep (Keep.of_below k []) (by simp)
theorem McAt.lt {w : World} {X : Nat} {F : List Nat} {m : Mc} (h : McAt w X F m) : ∀ b ∈ F, b < w.heap.size := by
  obtain ⟨G, f, rfl, hn, hl, hX, h0, h1⟩ := h
  exact lo_cons (heap_lt hX) hl
theorem eq_fun (w : World) (d : Nat) (a : Fn) (b c : Array Value) : (Op.equalIn (d + 1) 52 (.func a b c) .nilFunc).run Try.prog w = .ok false w := by
  simp [Op.equalIn, run_underlying Try.underlying52]
theorem eq_nilf (w : World) (d : Nat) : (Op.equalIn (d + 1) 52 .nilFunc .nilFunc).run Try.prog w = .ok true w := by
  simp [Op.equalIn, run_underlying Try.underlying52]
theorem neq_fun (w : World) (a : Fn) (b c : Array Value) : (binOp .neq 52 (.func a b c) .nilFunc).run Try.prog w = .ok (.bool true) w := by
  have h := eq_fun w 9999 a b c
  simp only [binOp, Op.equal, Op.maxDepth]
  simp [h]
theorem neq_nil (w : World) : (binOp .neq 52 .nilFunc .nilFunc).run Try.prog w = .ok (.bool false) w := by
  have h := eq_nilf w 9999
  simp only [binOp, Op.equal, Op.maxDepth]
  simp [h]
abbrev z4 : Array Value := #[.int .i64 0, .int .i64 0, .int .i64 0, .int .i64 0]
theorem next_nil (w : World) (v : Int) : Calls Try.prog 21 #[.pointer none, .int .i64 v] w fun e w' => e = .returned (.agg (wnC wn0)) ∧ Below w.heap.size w w' := by
  go_enter Try.func21, Try.ntmps21
  go_wp2_with fail
  exact ret_wn rfl rfl (heap_alloc_new _ _) rfl rfl ⟨rfl, below_a1 _ _⟩
set_option maxRecDepth 10000 in
theorem next_fin {w : World} {X : Nat} {F : List Nat} {m : Mc} (h : McAt w X F m) (hg : m.g = none) (v : Int) : Calls Try.prog 21 #[.pointer (some ⟨X, 0, none⟩), .int .i64 v] w fun e w' => e = .returned (.agg (wnC (tellM m v))) ∧ ∃ F', McAt w' X F' (goM m v) ∧ Next F F' w w' := by
  have HT : Hid (tellM m v = m.last) := by have : tellM m v = m.last := (by unfold tellM; rw [hg]); exact this
  have HE : Hid (∀ o, McAt (w.alloc o) X F (goM m v) ∧ Next F F w (w.alloc o)) := fun o => ⟨by have : goM m v = m := (by unfold goM; rw [hg]); rw [this]; exact h.later (below_a1 _ _), Next.of_below (below_a1 _ _) F⟩
  obtain ⟨G, f, rfl, hn, hl, hX, h0, h1⟩ := h
  obtain rfl := h0 hg
  have hx : X < w.heap.size := heap_lt hX
  have c0 : w.cell? ⟨X, 0, none⟩ = some .nilFunc := by rw [cell_at hX]; rfl
  have c1 : w.cell? ⟨X, 1, none⟩ = some (.int .i64 m.last.kind) := by rw [cell_at hX]; rfl
  have c2 : w.cell? ⟨X, 2, none⟩ = some (.int .i64 m.last.cell) := by rw [cell_at hX]; rfl
  have c3 : w.cell? ⟨X, 3, none⟩ = some (.int .i64 m.last.val) := by rw [cell_at hX]; rfl
  have c4 : w.cell? ⟨X, 4, none⟩ = some (.int .i64 m.last.code) := by rw [cell_at hX]; rfl
  have hq := neq_nil
  clear hn hl h0 h1 hX
  go_enter Try.func21, Try.ntmps21
  go_wp2_with fail
  exact ret_wn rfl rfl (heap_alloc_new _ _) rfl rfl ⟨by rw [HT.out]; rfl, _, HE.out _⟩
/-- What was told, and what comes next, are laid into the machine. -/
theorem mid_any {w : World} {X : Nat} {f0 f' : Value} {l x : Wn} {o : Obj} (h : w.heap[X]? = some (.cells (mcC f0 l) 59 (0, 0))) :
    ∃ w5, w5 = ((((((w.setCell ⟨X, 1, none⟩ (.int .i64 x.kind)).setCell ⟨X, 2, none⟩ (.int .i64 x.cell)).setCell ⟨X, 3, none⟩ (.int .i64 x.val)).setCell ⟨X, 4, none⟩ (.int .i64 x.code)).setCell ⟨X, 0, none⟩ f').alloc o).drew ∧ w5.heap[X]? = some (.cells (mcC f' x) 59 (0, 0)) ∧ Keep [X] w w5 := by
  refine ⟨_, rfl, ?_, ?_⟩
  · have h1 := heap_set (i := 1) (v := .int .i64 x.kind) h
    have h2 := heap_set (i := 2) (v := .int .i64 x.cell) h1
    have h3 := heap_set (i := 3) (v := .int .i64 x.val) h2
    have h4 := heap_set (i := 4) (v := .int .i64 x.code) h3
    have h5 := heap_set (i := 0) (v := f') h4
    exact hp_past h5
  · have hX := heap_lt h
    refine Keep.drewN (Keep.alloc ?_ _) 1
    exact (((((Keep.refl [X] w).setCell _ _ (Or.inl (by simp))).setCell _ _ (Or.inl (by simp))).setCell _ _ (Or.inl (by simp))).setCell _ _ (Or.inl (by simp))).setCell _ _ (Or.inl (by simp))
theorem next_end {w w2 w5 w6 : World} {X : Nat} {G F' : List Nat} {f0 f' : Value} {l : Wn} {t : T} {n : Nat} {o : Obj} {m : Mc} (hX : w.heap[X]? = some (.cells (mcC f0 l) 59 (0, 0))) (hn : X ∉ G) (_ : ∀ b ∈ G, b < w.heap.size) (ht : TnAt t F' w2 (.agg (tnC t.w f'))) (hs : ∀ b ∈ F', b ∈ G ∨ (w.alloc o).heap.size ≤ b)
    (h5 : w5.heap[X]? = some (.cells (mcC f' t.w) 59 (0, 0))) (k5 : Keep [X] w2 w5) (k6 : Keep [w.heap.size] w5 w6) (hm : m = ⟨t.w, t.nx, n⟩) : McAt w6 X (X :: F'.filter (fun b => decide (b < w2.heap.size))) m := by
  have hXl := heap_lt hX
  have hXF : X ∉ F' := fun hc => by
    rcases hs X hc with h | h
    · exact hn h
    · have : (w.alloc o).heap.size = w.heap.size + 1 := by simp
      omega
  have hRF : w.heap.size ∉ F' := fun hc => by
    rcases hs _ hc with h | h
    · have := ‹∀ b ∈ G, b < w.heap.size› _ h; omega
    · have : (w.alloc o).heap.size = w.heap.size + 1 := by simp
      omega
  have hX6 : w6.heap[X]? = some (.cells (mcC f' t.w) 59 (0, 0)) := by rw [k6.block _ (heap_lt h5) (by simp; omega)]; exact h5
  have hun : Un (F'.filter (fun b => decide (b < w2.heap.size))) w2 w6 := ⟨Nat.le_trans k5.size k6.size, fun b hb2 => by
    obtain ⟨hb3, hb4⟩ := List.mem_filter.1 hb2
    have hb5 : b < w2.heap.size := by simpa using hb4
    rw [k6.block b (Nat.lt_of_lt_of_le hb5 k5.size) (by simp; exact fun e => hRF (e ▸ hb3)), k5.block b hb5 (by simp; exact fun e => hXF (e ▸ hb3))]⟩
  refine ⟨_, f', rfl, fun hc => hXF (List.mem_filter.1 hc).1, fun b hb2 => ?_, by rw [hm]; exact hX6, fun hg => ?_, fun g hg => ?_⟩
  · obtain ⟨hb3, hb4⟩ := List.mem_filter.1 hb2
    have hb5 : b < w2.heap.size := by simpa using hb4
    exact Nat.lt_of_lt_of_le hb5 hun.1
  · rw [hm] at hg
    cases t with
    | fin y => simp [TnAt, tnC, T.w] at ht; exact ht
    | on y g' => simp [T.nx] at hg
  · rw [hm] at hg
    cases t with
    | fin y => simp [T.nx] at hg
    | on y g' =>
      simp only [T.nx, Option.some.injEq] at hg
      subst hg
      obtain ⟨f2, h6, h7⟩ := tn_on.1 ht
      simp [tnC, T.w] at h6
      subst h6
      refine Fv.un ?_ hun
      refine h7.wide (fun b hb2 => List.mem_filter.2 ⟨hb2, by simpa using h7.1 b hb2⟩) (fun b hb2 => ?_)
      simpa using (List.mem_filter.1 hb2).2
theorem next_kept {w w2 w5 w6 : World} {X : Nat} {G F' : List Nat} {o : Obj} (hb : Below (w.alloc o).heap.size (w.alloc o) w2) (hs : ∀ b ∈ F', b ∈ G ∨ (w.alloc o).heap.size ≤ b)
    (k5 : Keep [X] w2 w5) (k6 : Keep [w.heap.size] w5 w6) : Next (X :: G) (X :: F'.filter (fun b => decide (b < w2.heap.size))) w w6 := by
  have h2 : Keep (X :: G) w w2 := Keep.of_below (below_then (below_a1 _ _) hb) _
  have h5 : Keep (X :: G) w w5 := h2.trans k5 (fun b hb2 => by simp at hb2; exact Or.inl (by simp [hb2]))
  refine ⟨h5.trans k6 (fun b hb2 => by simp at hb2; exact Or.inr (by omega)), fun b hb2 => ?_⟩
  rcases List.mem_cons.1 hb2 with rfl | hb3
  · exact Or.inl (by simp)
  · rcases hs b (List.mem_filter.1 hb3).1 with h | h
    · exact Or.inl (List.mem_cons_of_mem _ h)
    · exact Or.inr (by have : (w.alloc o).heap.size = w.heap.size + 1 := by simp
                       omega)
set_option maxRecDepth 10000 in
theorem next_on {w : World} {X : Nat} {F : List Nat} {m : Mc} {g : Int → T} (h : McAt w X F m) (hg : m.g = some g) (v : Int) : Calls Try.prog 21 #[.pointer (some ⟨X, 0, none⟩), .int .i64 v] w fun e w' => e = .returned (.agg (wnC (tellM m v))) ∧ ∃ F', McAt w' X F' (goM m v) ∧ Next F F' w w' := by
  have HT : Hid (tellM m v = (g v).w) := by have : tellM m v = (g v).w := (by unfold tellM; rw [hg]); exact this
  have HGO : Hid (goM m v = ⟨(g v).w, (g v).nx, m.n - 1⟩) := by have : goM m v = ⟨(g v).w, (g v).nx, m.n - 1⟩ := (by unfold goM; rw [hg]); exact this
  obtain ⟨G, f, rfl, hn, hl, hX, h0, h1⟩ := h
  have hf := h1 g hg
  obtain ⟨_, id, first, cap, rfl, _⟩ := hf
  have hf := h1 g hg
  have he := hf.get.1
  have HC : Hid (∀ w', Un G w w' → Calls Try.prog id (first ++ #[.int .i64 v] ++ cap) w' (Gv (g v) G w')) := fun w' hu => by have := hf.get.2 v trivial w' hu; simpa [encI] using this
  have hx : X < w.heap.size := heap_lt hX
  have c0 : w.cell? ⟨X, 0, none⟩ = some (.func (.func id) first cap) := by rw [cell_at hX]; rfl
  have HX : Hid (w.heap[X]? = some (.cells (mcC (.func (.func id) first cap) m.last) 59 (0, 0))) := hX
  have HL : Hid (X ∉ G ∧ ∀ b ∈ G, b < w.heap.size) := ⟨hn, hl⟩
  have hq := fun w => neq_fun w (.func id) first cap
  clear hn hl h0 h1 hX hf
  generalize g v = t at *
  go_enter Try.func21, Try.ntmps21
  go_wp2_with fail
  refine (HC.out _ (Un.of_below (below_a1 _ _) HL.out.2)).mono ?_
  rintro e w2 ⟨u, F', rfl, h3, h4, h5⟩
  obtain ⟨f', rfl, hone⟩ := h3.cells
  have hsf : ∀ (w : World) (a : Addr) (md : Mode), (store a f' md).run Try.prog w = stored Try.prog w a f' md := fun w a md => run_store Try.prog w a f' md hone
  have HX2 : Hid (w2.heap[X]? = some (.cells (mcC (.func (.func id) first cap) m.last) 59 (0, 0))) := by rw [Hid, h4.block X (by simp; omega), hp_past HX.out]
  have HR2 : Hid (w2.heap[w.heap.size]? = some (.cells z4 51 (0, 0))) := by rw [Hid, h4.block _ (by simp)]; exact hp_at rfl
  have hx2 : X < w2.heap.size := heap_lt HX2.out
  have hr2 : w.heap.size < w2.heap.size := heap_lt HR2.out
  have d0 : w2.cell? ⟨X, 0, none⟩ = some (.func (.func id) first cap) := by rw [cell_at HX2.out]; rfl
  have d1 : w2.cell? ⟨X, 1, none⟩ = some (.int .i64 m.last.kind) := by rw [cell_at HX2.out]; rfl
  have d2 : w2.cell? ⟨X, 2, none⟩ = some (.int .i64 m.last.cell) := by rw [cell_at HX2.out]; rfl
  have d3 : w2.cell? ⟨X, 3, none⟩ = some (.int .i64 m.last.val) := by rw [cell_at HX2.out]; rfl
  have d4 : w2.cell? ⟨X, 4, none⟩ = some (.int .i64 m.last.code) := by rw [cell_at HX2.out]; rfl
  have fz0 : w2.frozen? ⟨X, 0, none⟩ = false := frozen_at HX2.out 0
  have fz1 : w2.frozen? ⟨X, 1, none⟩ = false := frozen_at HX2.out 1
  have fz2 : w2.frozen? ⟨X, 2, none⟩ = false := frozen_at HX2.out 2
  have fz3 : w2.frozen? ⟨X, 3, none⟩ = false := frozen_at HX2.out 3
  have fz4 : w2.frozen? ⟨X, 4, none⟩ = false := frozen_at HX2.out 4
  have HTN : Hid (TnAt t F' w2 (.agg (tnC t.w f')) ∧ Below (w.alloc (.cells z4 51)).heap.size (w.alloc (.cells z4 51)) w2 ∧ ∀ b ∈ F', b ∈ G ∨ (w.alloc (.cells z4 51)).heap.size ≤ b) := ⟨h3, h4, h5⟩
  have HFM : Hid (f' = .nilFunc ∨ ∃ a b c, f' = .func a b c) := by
    cases t with
    | fin y => simp [TnAt, tnC, T.w] at h3; exact Or.inl h3
    | on y g' => obtain ⟨f2, h6, _, id2, first2, cap2, h7, _⟩ := h3; simp [tnC, T.w] at h6; exact Or.inr ⟨_, _, _, by rw [h6, h7]⟩
  clear h3 h4 h5 c0 hx
  unfold tnC
  obtain ⟨x, hxt⟩ : ∃ x, x = t.w := ⟨_, rfl⟩
  rw [← hxt] at HT HGO HTN ⊢
  have HXT : Hid (x = t.w) := hxt
  clear hxt
  have hform : f' = .nilFunc ∨ ∃ a b c, f' = .func a b c := HFM.out
  rcases hform with rfl | ⟨f1, f2, f3, rfl⟩
  · go_wp2_with fail
    go_region
    obtain ⟨w5, hw5, hX5, hk5⟩ := mid_any (f' := .nilFunc) (x := x) (o := .cells #[.int .i64 x.kind, .int .i64 x.cell, .int .i64 x.val, .int .i64 x.code, .nilFunc] 54) HX2.out
    rw [← hw5]
    have HM : Hid (w5.heap[X]? = some (.cells (mcC (.nilFunc) x) 59 (0, 0)) ∧ Keep [X] w2 w5) := ⟨hX5, hk5⟩
    have hR5 : w5.heap[w.heap.size]? = some (.cells z4 51 (0, 0)) := by rw [hk5.block _ (heap_lt HR2.out) (by have := heap_lt HX.out; simp; omega)]; exact HR2.out
    have a1 : w5.cell? ⟨X, 1, none⟩ = some (.int .i64 x.kind) := by rw [cell_at hX5]; rfl
    have a2 : w5.cell? ⟨X, 2, none⟩ = some (.int .i64 x.cell) := by rw [cell_at hX5]; rfl
    have a3 : w5.cell? ⟨X, 3, none⟩ = some (.int .i64 x.val) := by rw [cell_at hX5]; rfl
    have a4 : w5.cell? ⟨X, 4, none⟩ = some (.int .i64 x.code) := by rw [cell_at hX5]; rfl
    obtain ⟨cs, hpk⟩ : ∃ cs : Array Value, (#[.int .i64 x.kind, .int .i64 x.cell, .int .i64 x.val, .int .i64 x.code] : Array Value) = cs := ⟨_, rfl⟩
    have HCS : Hid (wnC x = cs) := hpk
    have hz : cs.size = 4 := by rw [← hpk]; rfl
    obtain ⟨w6, hs6, hw6⟩ : ∃ w6, (storeCells ⟨w.heap.size, 0, none⟩ cs.toList 0).run Try.prog w5 = .ok () w6 ∧ w6 = w5.setRow w.heap.size cs := ⟨_, store_wn hR5 rfl hz (by rw [← hpk]; exact wnC_one x), rfl⟩
    have HR6 : Hid (w6.heap[w.heap.size]? = some (.cells cs 51 (0, 0))) := by rw [hw6]; exact setRow_heap _ _ _ _ _ _ hR5
    have HK6 : Hid (Keep [w.heap.size] w5 w6) := by rw [hw6]; exact Keep.row _ _ _
    clear hw5 hX5 hk5 hR5 hw6 d0 d1 d2 d3 d4 fz0 fz1 fz2 fz3 fz4 hsf he hq hone
    go_wp2_with fail
    refine ret_wn rfl rfl HR6.out hz rfl ⟨by rw [HT.out, ← HCS.out], _, next_end HX.out HL.out.1 HL.out.2 (HXT.out ▸ HTN.out.1) HTN.out.2.2 (HXT.out ▸ HM.out.1) HM.out.2 HK6.out (HXT.out ▸ HGO.out), ?_⟩
    exact next_kept HTN.out.2.1 HTN.out.2.2 HM.out.2 HK6.out
  · go_wp2_with fail
    go_region
    obtain ⟨w5, hw5, hX5, hk5⟩ := mid_any (f' := .func f1 f2 f3) (x := x) (o := .cells #[.int .i64 x.kind, .int .i64 x.cell, .int .i64 x.val, .int .i64 x.code, .func f1 f2 f3] 54) HX2.out
    rw [← hw5]
    have HM : Hid (w5.heap[X]? = some (.cells (mcC (.func f1 f2 f3) x) 59 (0, 0)) ∧ Keep [X] w2 w5) := ⟨hX5, hk5⟩
    have hR5 : w5.heap[w.heap.size]? = some (.cells z4 51 (0, 0)) := by rw [hk5.block _ (heap_lt HR2.out) (by have := heap_lt HX.out; simp; omega)]; exact HR2.out
    have a1 : w5.cell? ⟨X, 1, none⟩ = some (.int .i64 x.kind) := by rw [cell_at hX5]; rfl
    have a2 : w5.cell? ⟨X, 2, none⟩ = some (.int .i64 x.cell) := by rw [cell_at hX5]; rfl
    have a3 : w5.cell? ⟨X, 3, none⟩ = some (.int .i64 x.val) := by rw [cell_at hX5]; rfl
    have a4 : w5.cell? ⟨X, 4, none⟩ = some (.int .i64 x.code) := by rw [cell_at hX5]; rfl
    obtain ⟨cs, hpk⟩ : ∃ cs : Array Value, (#[.int .i64 x.kind, .int .i64 x.cell, .int .i64 x.val, .int .i64 x.code] : Array Value) = cs := ⟨_, rfl⟩
    have HCS : Hid (wnC x = cs) := hpk
    have hz : cs.size = 4 := by rw [← hpk]; rfl
    obtain ⟨w6, hs6, hw6⟩ : ∃ w6, (storeCells ⟨w.heap.size, 0, none⟩ cs.toList 0).run Try.prog w5 = .ok () w6 ∧ w6 = w5.setRow w.heap.size cs := ⟨_, store_wn hR5 rfl hz (by rw [← hpk]; exact wnC_one x), rfl⟩
    have HR6 : Hid (w6.heap[w.heap.size]? = some (.cells cs 51 (0, 0))) := by rw [hw6]; exact setRow_heap _ _ _ _ _ _ hR5
    have HK6 : Hid (Keep [w.heap.size] w5 w6) := by rw [hw6]; exact Keep.row _ _ _
    clear hw5 hX5 hk5 hR5 hw6 d0 d1 d2 d3 d4 fz0 fz1 fz2 fz3 fz4 hsf he hq hone
    go_wp2_with fail
    refine ret_wn rfl rfl HR6.out hz rfl ⟨by rw [HT.out, ← HCS.out], _, next_end HX.out HL.out.1 HL.out.2 (HXT.out ▸ HTN.out.1) HTN.out.2.2 (HXT.out ▸ HM.out.1) HM.out.2 HK6.out (HXT.out ▸ HGO.out), ?_⟩
    exact next_kept HTN.out.2.1 HTN.out.2.2 HM.out.2 HK6.out
theorem next_any {w : World} {X : Nat} {F : List Nat} {m : Mc} (h : McAt w X F m) (v : Int) : Calls Try.prog 21 #[.pointer (some ⟨X, 0, none⟩), .int .i64 v] w fun e w' => e = .returned (.agg (wnC (tellM m v))) ∧ ∃ F', McAt w' X F' (goM m v) ∧ Next F F' w w' := by
  cases hg : m.g with
  | none => exact next_fin h hg v
  | some g => exact next_on h hg v
theorem new1_any {w : World} {B : Nat} {cs : Array Value} {t : T} {F : List Nat} (z : Int) (hB : w.heap[B]? = some (.cells cs 54 (0, 0))) (ht : TnAt t F w (.agg cs)) : Calls Try.prog 18 #[.int .i64 z, .pointer (some ⟨B, 0, none⟩)] w (Gv t F w) := by
  have HT : Hid (∀ o, Gv t F w (.returned (.agg cs)) (w.alloc o)) := fun o => ⟨_, F, rfl, ht.later (below_a1 _ _), below_a1 _ _, nw_nil⟩
  obtain ⟨f, hcs, hone⟩ := ht.cells
  have hcs' : cs = tnC t.w f := by simpa using hcs
  have hform : f = .nilFunc ∨ ∃ a b c, f = .func a b c := by
    cases t with
    | fin y => rw [hcs'] at ht; simp [TnAt, tnC, T.w] at ht; exact Or.inl ht
    | on y g' => rw [hcs'] at ht; obtain ⟨f2, h6, _, id2, first2, cap2, h7, _⟩ := ht; simp [tnC, T.w] at h6; exact Or.inr ⟨_, _, _, by rw [h6, h7]⟩
  have hx : B < w.heap.size := heap_lt hB
  subst hcs'
  have c0 : w.cell? ⟨B, 0, none⟩ = some (.int .i64 t.w.kind) := by rw [cell_at hB]; rfl
  have c1 : w.cell? ⟨B, 1, none⟩ = some (.int .i64 t.w.cell) := by rw [cell_at hB]; rfl
  have c2 : w.cell? ⟨B, 2, none⟩ = some (.int .i64 t.w.val) := by rw [cell_at hB]; rfl
  have c3 : w.cell? ⟨B, 3, none⟩ = some (.int .i64 t.w.code) := by rw [cell_at hB]; rfl
  have c4 : w.cell? ⟨B, 4, none⟩ = some f := by rw [cell_at hB]; rfl
  clear hcs ht hone hB
  rcases hform with rfl | ⟨f1, f2, f3, rfl⟩
  · go_enter Try.func18, Try.ntmps18
    go_wp2_with fail
    exact ret_tn rfl rfl (heap_alloc_new _ _) rfl rfl (HT.out _)
  · go_enter Try.func18, Try.ntmps18
    go_wp2_with fail
    exact ret_tn rfl rfl (heap_alloc_new _ _) rfl rfl (HT.out _)
theorem right_parts (b m c : Int) (n : Nat) : rightV b m c n = (decide (0 ≤ b) && decide (b ≤ 1024) && (decide (0 ≤ m) && decide (m ≤ 16)) && decide (arV c = n)) := by
  unfold rightV takesV
  cases decide (0 ≤ m) <;> cases decide (m ≤ 16) <;> cases decide (0 ≤ b) <;> cases decide (b ≤ 1024) <;> simp
set_option maxRecDepth 10000 in
theorem new_no (w : World) (b m c : Int) (va : Value) (A : List Int) (hv : Nl w va A) (h : rightV b m c A.length = false) : Calls Try.prog 5 #[.int .i64 b, .int .i64 m, .int .i64 c, va] w fun e w' => e = .returned (.tuple #[.pointer none, .int .i64 1]) ∧ Below w.heap.size w w' := by
  obtain ⟨a, cap, rfl, hlen, hc1, hc2, hr, hl⟩ := hv
  have HC : Hid (∀ w : World, Calls Try.prog 15 #[.int .i64 m] w fun e w' => e = .returned (.bool (decide (0 ≤ m) && decide (m ≤ 16))) ∧ w' = w) := fun w => cap_any w m
  have HK : Hid (∀ w : World, Calls Try.prog 16 #[.int .i64 c, .int .i64 A.length] w fun e w' => e = .returned (.bool (decide (arV c = A.length))) ∧ w' = w) := fun w => takes_any w c A.length
  rw [right_parts] at h
  generalize (decide (0 ≤ m) && decide (m ≤ 16)) = q1 at *
  generalize decide (arV c = (A.length : Int)) = q2 at *
  clear hl hr hc1 hc2 hlen
  by_cases h1 : b < 0
  · have d1 : decide (b < 0) = true := by simpa using h1
    clear h h1
    go_enter Try.func5, Try.ntmps5
    go_wp2_with fail
    go_ret2
    exact ⟨rfl, Below.refl _ _⟩
  · have d1 : decide (b < 0) = false := by simpa using h1
    by_cases h2 : 1024 < b
    · have d2 : decide (1024 < b) = true := by simpa using h2
      clear h h1 h2
      go_enter Try.func5, Try.ntmps5
      go_wp2_with fail
      go_ret2
      exact ⟨rfl, Below.refl _ _⟩
    · have d2 : decide (1024 < b) = false := by simpa using h2
      have hq : (q1 && q2) = false := by
        have e1 : decide (0 ≤ b) = true := by simp; omega
        have e2 : decide (b ≤ 1024) = true := by simp; omega
        rw [e1, e2] at h
        simpa using h
      clear h h1 h2
      cases q1
      · go_enter Try.func5, Try.ntmps5
        go_wp2_with fail
        refine (HC.out _).mono ?_
        rintro e w1 ⟨rfl, rfl⟩
        go_wp2_with fail
        go_ret2
        exact ⟨rfl, Below.refl _ _⟩
      · obtain rfl : q2 = false := by simpa using hq
        clear hq
        go_enter Try.func5, Try.ntmps5
        go_wp2_with fail
        refine (HC.out _).mono ?_
        rintro e w1 ⟨rfl, rfl⟩
        go_wp2_with fail
        refine (HK.out _).mono ?_
        rintro e w1 ⟨rfl, rfl⟩
        go_wp2_with fail
        go_ret2
        exact ⟨rfl, Below.refl _ _⟩
theorem new_tn {P : Program} {w : World} {t : TypeId} {z cs : Array Value} (hz : z.size = 5) (hc : cs.size = 5) (h1 : cs.all (·.oneCell') = true) : ∃ w', (storeCells ⟨w.heap.size, 0, none⟩ cs.toList 0).run P (w.alloc (.cells z t)) = .ok () w' ∧ w'.heap[w.heap.size]? = some (.cells cs t (0, 0)) ∧ Below w.heap.size w w' ∧ w'.heap.size = w.heap.size + 1 :=
  ⟨_, store_tn (heap_alloc_new w _) hz hc h1, setRow_heap _ _ _ _ _ _ (heap_alloc_new w _), below_row (below_a1 _ _) _ (Nat.le_refl _) _, by rw [setRow_size]; simp⟩
set_option maxRecDepth 10000 in
theorem new_yes (w : World) (b m c : Int) (va : Value) (A : List Int) (hv : Nl w va A) (h : rightV b m c A.length = true) : Calls Try.prog 5 #[.int .i64 b, .int .i64 m, .int .i64 c, va] w fun e w' => ∃ X F, e = .returned (.tuple #[.pointer (some ⟨X, 0, none⟩), .int .i64 0]) ∧ McAt w' X F (mkM b m c A) ∧ (∀ q ∈ F, w.heap.size ≤ q) ∧ Below w.heap.size w w' := by
  have HF : Hid (Calls Try.prog 17 #[.agg #[.int .i64 b, .int .i64 m], .int .i64 c, va] w (Gv (firstT b m c A) [] w)) := first_any hv h
  obtain ⟨a, cap, rfl, hlen, hc1, hc2, hr, hl⟩ := hv
  have HC : Hid (∀ w : World, Calls Try.prog 15 #[.int .i64 m] w fun e w' => e = .returned (.bool (decide (0 ≤ m) && decide (m ≤ 16))) ∧ w' = w) := fun w => cap_any w m
  have HK : Hid (∀ w : World, Calls Try.prog 16 #[.int .i64 c, .int .i64 A.length] w fun e w' => e = .returned (.bool (decide (arV c = A.length))) ∧ w' = w) := fun w => takes_any w c A.length
  obtain ⟨hm1, hm2, hb1, hb2, hcc⟩ := call_of h
  have e1 : (decide (0 ≤ m) && decide (m ≤ 16)) = true := by simp [hm1, hm2]
  have e2 : decide (arV c = (A.length : Int)) = true := by
    rw [right_parts] at h
    simp only [Bool.and_eq_true] at h
    exact h.2
  rw [e1] at HC
  rw [e2] at HK
  have d1 : decide (b < 0) = false := by simp; omega
  have d2 : decide (1024 < b) = false := by simp; omega
  have HMK : Hid (mkM b m c A = ⟨wn0, some (fun _ => firstT b m c A), mostW m⟩) := rfl
  clear h hm1 hm2 hb1 hb2 hr hc1 hc2 hlen e1 e2 hcc hl
  generalize firstT b m c A = t at *
  generalize mkM b m c A = mk at *
  go_enter Try.func5, Try.ntmps5
  go_wp2_with fail
  refine (HC.out _).mono ?_
  rintro e w1 ⟨rfl, hw1⟩
  obtain rfl := hw1.symm
  clear hw1
  go_wp2_with fail
  refine (HK.out _).mono ?_
  rintro e w1 ⟨rfl, hw1⟩
  obtain rfl := hw1.symm
  clear hw1
  go_wp2_with fail
  refine HF.out.mono ?_
  rintro e w2 ⟨u, F', rfl, h3, h4, h5⟩
  obtain ⟨f', rfl, hone⟩ := h3.cells
  obtain ⟨cs, hcs⟩ : ∃ cs, cs = tnC t.w f' := ⟨_, rfl⟩
  have hzc : cs.size = 5 := by rw [hcs]; rfl
  obtain ⟨w3, hs3, hr3, hb3, hz3⟩ := new_tn (P := Try.prog) (w := w2) (t := 54) (z := #[.int .i64 0, .int .i64 0, .int .i64 0, .int .i64 0, .nilFunc]) rfl hzc (by rw [hcs]; exact tnC_one hone)
  rw [← hcs] at h3 ⊢
  have HX : Hid (∀ o, ∀ f, o = Obj.cells (mcC f wn0) 59 (0, 0) → f = .func (.func 18) #[] #[.pointer (some ⟨w2.heap.size, 0, none⟩)] → McAt (w3.alloc o) w3.heap.size (w3.heap.size :: w2.heap.size :: F'.filter (fun b => decide (b < w2.heap.size))) mk ∧ (∀ q ∈ w3.heap.size :: w2.heap.size :: F'.filter (fun b => decide (b < w2.heap.size)), w.heap.size ≤ q) ∧ Below w.heap.size w (w3.alloc o)) := fun o f ho hf => by
    have hb2 : Below w.heap.size w w3 := below_then h4 hb3
    have h4s := h4.size
    have hlo : ∀ q ∈ w2.heap.size :: F'.filter (fun b => decide (b < w2.heap.size)), q < (w3.alloc o).heap.size := fun q hq => by
      have : (w3.alloc o).heap.size = w3.heap.size + 1 := by simp
      rcases List.mem_cons.1 hq with rfl | hq
      · omega
      · have := (List.mem_filter.1 hq).2
        simp at this
        omega
    refine ⟨⟨_, f, rfl, fun hc => ?_, hlo, ?_, fun hg => ?_, fun g hg => ?_⟩, fun q hq => ?_, below_then hb2 (below_a1 _ _)⟩
    · rcases List.mem_cons.1 hc with h | h
      · omega
      · have := (List.mem_filter.1 h).2
        simp at this
        omega
    · rw [HMK.out, ho]; exact heap_alloc_new _ _
    · rw [HMK.out] at hg; simp at hg
    · rw [HMK.out] at hg
      simp only [Option.some.injEq] at hg
      subst hg hf
      refine fv_mk hlo (ent Try.func18 (by kernel_rfl) rfl) (fun z _ w' hu => ?_)
      have hB : w'.heap[w2.heap.size]? = some (.cells cs 54 (0, 0)) := by
        rw [hu.2 _ List.mem_cons_self]
        exact hp_past hr3
      have ht : TnAt t (w2.heap.size :: F'.filter (fun b => decide (b < w2.heap.size))) w' (.agg cs) := by
        cases t with
        | fin y => exact h3
        | on y g' =>
          obtain ⟨f2, h6, h7⟩ := tn_on.1 h3
          refine tn_on.2 ⟨f2, h6, ?_⟩
          refine Fv.un ?_ hu
          refine (h7.later (below_then hb3 (below_a1 w3 o))).wide (fun q hq => List.mem_cons_of_mem _ (List.mem_filter.2 ⟨hq, by simpa using h7.1 q hq⟩)) hlo
      have := new1_any z hB ht
      simpa [encI] using this
    · rcases List.mem_cons.1 hq with rfl | hq
      · have := hb2.size; omega
      · rcases List.mem_cons.1 hq with rfl | hq
        · omega
        · rcases h5 q (List.mem_filter.1 hq).1 with h | h
          · simp at h
          · exact h
  clear h3 h4 h5 hr3 hb3 hz3 hcs hone HMK HF HC HK
  go_wp2_with fail
  go_ret2
  obtain ⟨x1, x2, x3⟩ := HX.out _ _ rfl rfl
  exact ⟨_, _, rfl, x1, x2, x3⟩
end Go.Proofs.Ytaffkcliepfcmaa.Ch
