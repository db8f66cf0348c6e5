/- A queue's calls: the program's. -/
import Derived.Test.YtgbmnngmfcneaaaPlD
namespace Go.Proofs.Ytgbmnngmfcneaaa.Pl
open Go.ChangeShapes Go.WideShapes Go.ChangeAt Go.RowKit
attribute [local go_sem ↓] Go.wp_at_zero Go.wp_at_succ

theorem Did.as {w w' : World} {B g o : Nat} {L : List Value} {v p : Value} {x y : (Int × Int) × Co} {e : Ending} (h : Did w B g o L v p x e w') (e' : x = y) : Did w B g o L v p y e w' := e' ▸ h
theorem fr_drew (w : World) (a : Addr) : w.drew.frozen? a = w.frozen? a := rfl
/-- An append has grown a row, behind the literal that was laid. -/
theorem grow_next {w wz w1 : World} {v : Value} {o : Obj} {gg n cap : Nat} (hz : Below w.heap.size w wz) (hg : ((wz.alloc o).drew).grownBy w1 v.ownBlock) (hat : v.ownBlock = some gg ∨ gg = wz.heap.size + 1) : Next v.ownBlock.toList (Value.ownBlock (.slice (some ⟨gg, 0, none⟩) n cap)).toList w w1 := by
  have hk : Keep v.ownBlock.toList w ((wz.alloc o).drew) := Keep.drewN (Keep.alloc (Keep.of_below hz _) o) 1
  refine ⟨hk.grown hg (fun b hb => Or.inl (by simpa using hb)), fun b hb => ?_⟩
  simp [Value.ownBlock] at hb
  subst hb
  rcases hat with h | h
  · left; simpa using h
  · right
    have := hz.size
    omega
theorem putlast_any {w : World} {B g o : Nat} {L : List Value} {c : Co} {v p va : Value} {a : List Int} (h : ColAt w B g o L c v p) (ha : Nl w va a) (h1 : a.length = 1) (hk : c.kd = 2) (hB : B ≤ w.heap.size) : Calls Try.prog 58 #[.pointer (some ⟨g, o, none⟩), va] w (Did w B g o L v p (queV c 3 a)) := by
  have hok : CoOk (queV c 3 a).2 := h.ok.que hk 3 ha.w64
  obtain ⟨h0, h1', h2, h3⟩ := h.cells
  have hf := h.frozen (o + 2)
  obtain ⟨a1, k1, rfl⟩ := own_slice h.hv
  obtain ⟨a2, c2, rfl⟩ := nl_slice ha
  obtain ⟨_, _, hca⟩ := nl_cells ha
  obtain ⟨y, rfl, hyb, hy⟩ := hca 0 (by omega)
  have H : Hid (ColAt w B g o L c (.slice a1 c.vs.length k1) p) := h
  have hgl := heap_lt h.hg
  have hvm := h.ok.vm
  have hc16 := h.ok.c16
  rw [h1]
  rw [add_zero'] at hy
  have e5 : ¬ (3 : Int) = 5 := by decide
  unfold queV at hok ⊢
  rw [if_neg e5, if_pos rfl] at hok ⊢
  clear h h0 h3 ha hca h1 e5
  by_cases hfull : c.cap ≤ (c.vs.length : Int)
  · rw [if_pos hfull]
    have he : (c.vs.length : Int) = c.cap := by omega
    rw [← he] at h1'
    clear hok hvm hc16 hfull he
    go_enter Try.func58, Try.ntmps58
    go_wp2_with fail
    go_quiet (fail)
    go_wp2_with fail
    go_ret2
    exact Did.same H.out (below_drawn (Below.refl _ _) _) (0, 2)
  · rw [if_neg hfull] at hok ⊢
    have hd : ((c.vs.length : Int) == c.cap) = false := by simp; omega
    have HK : Hid (CoOk { c with vs := c.vs ++ [nth a 0] }) := hok
    have hlen : (numC c.vs).length = c.vs.length := numC_len _
    have hvn : c.vs.length ≤ 16 := by omega
    obtain ⟨i0, hi, hz0, hz1, hz2⟩ := info_parts info_i64
    have hgv : (Value.slice a1 c.vs.length k1).ownBlock ≠ some g := own_ne H.out.hv H.out.hg i64_coll
    generalize nth a 0 = x at *
    clear hok hvm hc16 hfull
    go_enter Try.func58, Try.ntmps58
    go_wp2_with fail
    go_quiet (fail)
    go_wp2_with fail
    obtain ⟨wz, hwz⟩ : ∃ wz, wz = w.drewN nq := ⟨_, rfl⟩
    rw [← hwz]
    have z1 : wz.cell? ⟨g, o + 2, none⟩ = some (.slice a1 c.vs.length k1) := by rw [hwz]; exact h2
    have z2 : wz.cell? y = some (.int .i64 x) := by rw [hwz]; exact hy
    have z3 : wz.frozen? ⟨g, o + 2, none⟩ = false := by rw [hwz]; exact hf
    have zg : g < wz.heap.size := by rw [hwz]; exact hgl
    have zB : B ≤ wz.heap.size := by rw [hwz]; exact hB
    have HZ : Hid (Below w.heap.size w wz) := by rw [hwz]; exact below_drawn (Below.refl _ _) _
    have HOWN : Hid (wz.ownsRow B 2 1 (.slice a1 c.vs.length k1) c.vs.length (numC c.vs)) := by rw [hwz]; exact H.out.hv
    have zy : y.block < wz.heap.size := by rw [hwz]; exact hyb
    clear hwz h2 hy hf hgl hyb
    generalize hxs : numC c.vs = xs at *
    generalize hnn : c.vs.length = n at *
    go_region_law
      ((refine step_lies_wide _ (by rfl) _ _ _ (by rfl) B 2 i0 _ 1 8 Try.underlying36 hi hz0 hz1 hz2 rfl (by omega) (.slice a1 n k1) n xs (by rfl) ((HOWN.out.alloc _).drew) ⟨wz.heap.size, 0, none⟩ 1 1 [.int .i64 x] (by rfl) (by rfl) (World.news_of_block (cs := #[.int .i64 x]) (t := 2) (fr := (0, 0)) (heap_alloc_new wz _)) (by simp [Value.oneCell']) (by omega) (by unfold maxLen; omega) (by omega) (by simp; omega) (wz.heap.size + 1) (by simp) ?_; intro gg cap' w1 hown1 hgrow hat hlt; have hs1 : w1.cell? ⟨g, o + 2, none⟩ = some (.slice a1 n k1) := (by rw [hgrow.cell_far _ (by simp; omega) (Ne.symm hgv)]; simp [zg, World.cell?_alloc_past, z1]); have hs2 : w1.frozen? ⟨g, o + 2, none⟩ = false := (by rw [hgrow.frozen_far _ (by simp; omega) (Ne.symm hgv)]; rw [fr_drew, World.frozen?_alloc_past _ _ _ zg]; exact z3)))
    all_goals
      have hN : Next (Value.ownBlock (.slice a1 n k1)).toList (Value.ownBlock (.slice (some ⟨gg, 0, none⟩) (n + 1) cap')).toList w w1 := grow_next HZ.out hgrow hat
      have HF : Hid (Did w B g o L (.slice a1 n k1) p ((0, 0), { c with vs := c.vs ++ [x] }) (.returned (.tuple #[.int .i64 0, .int .i64 0])) (w1.setCell ⟨g, o + 2, none⟩ (.slice (some ⟨gg, 0, none⟩) (n + 1) cap'))) := by
        have ho : w1.ownsRow B 2 1 (.slice (some ⟨gg, 0, none⟩) (n + 1) cap') (c.vs ++ [x]).length (numC (c.vs ++ [x])) := by
          rw [numC_snoc, hxs, List.length_append, hnn]
          exact hown1
        exact Did.vals H.out ho hN HK.out (0, 0)
      clear hown1 hgrow hat hlt hs1 hs2 hN
      go_wp2_with fail
      go_ret2
      exact HF.out
theorem getfirst_any {w : World} {B g o : Nat} {L : List Value} {c : Co} {v p va : Value} {a : List Int} (h : ColAt w B g o L c v p) (hk : c.kd = 2) (ha : ∀ x ∈ a, Sx x) : Calls Try.prog 59 #[.pointer (some ⟨g, o, none⟩), va] w (Did w B g o L v p (queV c 2 a)) := by
  have hok : CoOk (queV c 2 a).2 := h.ok.que hk 2 ha
  obtain ⟨h0, h1', h2, h3⟩ := h.cells
  have hf := h.frozen (o + 2)
  have hvm := h.ok.vm
  have hc16 := h.ok.c16
  have hnl := Nl.of_own h.hv (by omega) h.ok.sv
  obtain ⟨a1, k1, rfl⟩ := own_slice h.hv
  obtain ⟨_, _, hc⟩ := nl_cells hnl
  have H : Hid (ColAt w B g o L c (.slice a1 c.vs.length k1) p) := h
  have hgl := heap_lt h.hg
  have e5 : ¬ (2 : Int) = 5 := by decide
  have e3 : ¬ (2 : Int) = 3 := by decide
  unfold queV at hok ⊢
  rw [if_neg e5, if_neg e3] at hok ⊢
  clear h h0 h3 h1' e5 e3 hnl
  by_cases hz : c.vs.length = 0
  · rw [if_pos hz]
    have h2' : w.cell? ⟨g, o + 2, none⟩ = some (.slice a1 0 k1) := hz ▸ h2
    clear h2
    clear hok hvm hc16 hz hk
    go_enter Try.func59, Try.ntmps59
    go_wp2_with fail
    go_ret2
    exact Did.same H.out (Below.refl _ _) (0, 1)
  · rw [if_neg hz] at hok ⊢
    obtain ⟨x, rfl, hxb, hx⟩ := hc 0 (by omega)
    obtain ⟨gv, rfl⟩ := own_at0 H.out.hv
    rw [add_zero'] at hx
    have hd : ((c.vs.length : Int) == 0) = false := beq_eq_false_iff_ne.2 (by omega)
    have hpos : (0 : Int) < (c.vs.length : Int) := by omega
    have HK : Hid (CoOk { c with vs := del c.vs 0 }) := hok
    have HW : Hid (∀ w' : World, Below w.heap.size w w' → Calls Try.prog 77 #[.slice (some ⟨gv, 0, none⟩) c.vs.length k1, .int .i64 0] w' fun e w'' => e = .returned (.slice (some ⟨gv, 0, none⟩) (c.vs.length - 1) k1) ∧ w''.ownsRow B 2 1 (.slice (some ⟨gv, 0, none⟩) (c.vs.length - 1) k1) (c.vs.length - 1) (numC (del c.vs 0)) ∧ Keep [gv] w' w'') := fun w' hb => wouti_any (i := 0) (l := c.vs) (H.out.later hb).hv (by omega) (by omega)
    clear hok hvm hc16 hc hk hz
    go_enter Try.func59, Try.ntmps59
    go_wp2_with fail
    refine (HW.out _ (Below.refl _ _)).mono ?_
    rintro e w1 ⟨rfl, ho1, hk1⟩
    have hgv : gv ≠ g := fun e => own_ne H.out.hv H.out.hg i64_coll (e ▸ rfl)
    have hg1 : w1.heap[g]? = some (.cells L.toArray 70 (0, 0)) := by
      rw [hk1.block _ hgl (by simpa using fun e => hgv e.symm)]
      exact H.out.hg
    have z1 : w1.cell? ⟨g, o + 2, none⟩ = some (.slice (some ⟨gv, 0, none⟩) c.vs.length k1) := by
      rw [cell_at hg1]
      rw [cell_at H.out.hg] at h2
      exact h2
    have z3 : w1.frozen? ⟨g, o + 2, none⟩ = false := frozen_at hg1 _
    have HF : Hid (Did w B g o L (.slice (some ⟨gv, 0, none⟩) c.vs.length k1) p ((nth c.vs 0, 0), { c with vs := del c.vs 0 }) (.returned (.tuple #[.int .i64 (nth c.vs 0), .int .i64 0])) (w1.setCell ⟨g, o + 2, none⟩ (.slice (some ⟨gv, 0, none⟩) (c.vs.length - 1) k1))) := by
      have ho : w1.ownsRow B 2 1 (.slice (some ⟨gv, 0, none⟩) (c.vs.length - 1) k1) (del c.vs 0).length (numC (del c.vs 0)) := by
        rw [del_len _ _ (by omega)]
        exact ho1
      exact Did.vals H.out ho ⟨hk1, fun b hb => Or.inl hb⟩ HK.out (nth c.vs 0, 0)
    clear ho1 hk1 hg1 h2
    go_wp2_with fail
    go_ret2
    exact HF.out
end Go.Proofs.Ytgbmnngmfcneaaa.Pl
