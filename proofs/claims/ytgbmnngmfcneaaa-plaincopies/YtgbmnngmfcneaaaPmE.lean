/- A counter's and a queue's calls: the document's. -/
import Derived.Test.YtgbmnngmfcneaaaPmD
import Derived.Test.YtgbmnngmfcneaaaPlE
import Derived.Test.YtgbmnngmfcneaaaCoH
import Derived.Test.YtgbmnngmfcneaaaPmA
namespace Go.Proofs.Ytgbmnngmfcneaaa.Pl
open Go.ChangeShapes Go.WideShapes Go.ChangeAt Go.RowKit
attribute [local go_sem ↓] Go.wp_at_zero Go.wp_at_succ

/-- The values' row has become a new one. -/
theorem Dod.fresh {w w1 : World} {B g o : Nat} {L : List Value} {c : Co} {v p v' : Value} {vs' : List Int} (h : ShAt w B g o L c v p) (hB : B ≤ w.heap.size) (hb : Below w.heap.size w w1) (hv : w1.ownsRow w.heap.size 2 1 v' vs'.length (numC vs')) (hok : CoOk { c with vs := vs' }) (x : Int × Int) :
    Hid (Dod w B g o L v p (x, { c with vs := vs' }) (.returned (.tuple #[.int .i64 x.1, .int .i64 x.2])) (w1.setCell ⟨g, o + 1, none⟩ v')) :=
  Dod.vals h (own_base hv hB) ⟨Keep.of_below hb _, fun b hb' => Or.inr (own_block hv b (by simpa using hb')).1⟩ hok x
theorem Dod.freshP {w w1 : World} {B g o : Nat} {L : List Value} {c : Co} {v p p' : Value} {ps' : List (Int × Int)} (h : ShAt w B g o L c v p) (hB : B ≤ w.heap.size) (hb : Below w.heap.size w w1) (hv : w1.ownsRow w.heap.size 52 2 p' ps'.length (prC ps')) (hok : CoOk { c with ps := ps' }) (x : Int × Int) :
    Hid (Dod w B g o L v p (x, { c with ps := ps' }) (.returned (.tuple #[.int .i64 x.1, .int .i64 x.2])) (w1.setCell ⟨g, o + 2, none⟩ p')) :=
  Dod.prs h (own_base hv hB) ⟨Keep.of_below hb _, fun b hb' => Or.inr (own_block hv b (by simpa using hb')).1⟩ hok x
theorem counts_any {w : World} {B g o : Nat} {L : List Value} {c : Co} {v p va : Value} {a : List Int} (call : Int) (h : ShAt w B g o L c v p) (ha : Nl w va a) (h1 : ar1 call = (a.length : Int)) (hk : c.kd = 1) (hd : ∀ x n cp, va = .slice (some x) n cp → v.ownBlock ≠ some x.block) : Calls Try.prog 32 #[.pointer (some ⟨g, o, none⟩), .int .i64 call, va] w (Dod w B g o L v p (cntV c call a)) := by
  have hok : CoOk (cntV c call a).2 := h.ok.cnt hk call a
  obtain ⟨h0, h2, h3⟩ := h.cells
  have hvn : c.vs.length ≤ 16 := by have := h.ok.vm; have := h.ok.c16; omega
  have hnl := Nl.of_own h.hv (by omega) h.ok.sv
  obtain ⟨a1, k1, rfl⟩ := own_slice h.hv
  obtain ⟨_, hb, hc⟩ := nl_cells hnl
  obtain ⟨a2, c2, rfl⟩ := nl_slice ha
  obtain ⟨_, hal, hca⟩ := nl_cells ha
  have hpos : 0 < a.length := by
    unfold ar1 at h1
    split at h1
    · omega
    · split at h1 <;> omega
  have hposI : (0 : Int) < (a.length : Int) := by omega
  obtain ⟨y, rfl, hyb, hy⟩ := hca 0 hpos
  have H : Hid (ShAt w B g o L c (.slice a1 c.vs.length k1) p) := h
  have hgl := heap_lt h.hg
  have hdis := hd y _ _ rfl
  rw [add_zero'] at hy
  unfold cntV at hok ⊢
  clear h h0 h3 hnl ha hd
  obtain ⟨q, hq⟩ : ∃ q, numB c (nth a 0) = q := ⟨_, rfl⟩
  rw [hq] at hok ⊢
  cases q with
  | false =>
    simp only [numB, Bool.and_eq_false_iff, decide_eq_false_iff_not] at hq
    clear hc hca hok hk
    by_cases hneg : nth a 0 < 0
    · have hd0 : decide (nth a 0 < 0) = true := by simpa using hneg
      clear hq hneg
      go_enter Try.func32, Try.ntmps32
      go_wp2_with fail
      go_ret2
      exact Dod.same H.out (Below.refl _ _) (0, 1)
    · have hd0 : decide (nth a 0 < 0) = false := by simpa using hneg
      have hd1 : decide ((c.vs.length : Int) ≤ nth a 0) = true := by simp; omega
      clear hq hneg
      go_enter Try.func32, Try.ntmps32
      go_wp2_with fail
      go_ret2
      exact Dod.same H.out (Below.refl _ _) (0, 1)
  | true =>
    rw [if_pos rfl] at hok ⊢
    simp only [numB, Bool.and_eq_true, decide_eq_true_eq] at hq
    obtain ⟨i, hi⟩ : ∃ i : Nat, nth a 0 = (i : Int) := ⟨(nth a 0).toNat, by omega⟩
    rw [hi] at hq hy hok ⊢
    have hlt : i < c.vs.length := by omega
    obtain ⟨x, rfl, hxb, hx⟩ := hc i hlt
    obtain ⟨gv, rfl⟩ := own_at0 H.out.hv
    rw [add_at, Nat.zero_add] at hx
    by_cases e1 : call = 1
    · subst e1
      rw [if_pos rfl] at hok ⊢
      have HK : Hid (CoOk { c with vs := c.vs.set i (wrap64 (nth c.vs i + nth a 1)) }) := hok
      obtain ⟨y', hye, _, hy2⟩ := hca 1 (by unfold ar1 at h1; rw [if_pos rfl] at h1; omega)
      injection hye with hye
      subst hye
      rw [add_pos' y 1 (by decide)] at hy2
      have hal1 : (1 : Int) < (a.length : Int) := by unfold ar1 at h1; rw [if_pos rfl] at h1; omega
      have x2 : w.frozen? ⟨gv, i, none⟩ = false := (own_some H.out.hv i (by omega)).2
      have HD : Hid (gv ≠ y.block) := fun e => hdis (by rw [← e]; rfl)
      have HG : Hid (gv ≠ g) := fun e => own_ne H.out.hv H.out.hg i64_shp (e ▸ rfl)
      clear hc hq hi hok hca hdis h1 hk
      go_enter Try.func32, Try.ntmps32
      go_wp2_with fail
      go_region
      obtain ⟨w2, hw2⟩ : ∃ w2, w2 = (w.setCell ⟨gv, i, none⟩ (.int .i64 (wrap64 (nth c.vs i + nth a 1)))).drew := ⟨_, rfl⟩
      rw [← hw2]
      have hk2 : Keep [gv] w w2 := by
        rw [hw2]
        exact Keep.drewN (Keep.setCell (Keep.refl _ _) _ _ (Or.inl (by simp))) 1
      have ho2 : w2.ownsRow B 2 1 (.slice (some ⟨gv, 0, none⟩) c.vs.length k1) c.vs.length (numC (c.vs.set i (wrap64 (nth c.vs i + nth a 1)))) := by
        rw [hw2, ← numC_set]
        exact own_set2 H.out.hv _ _
      have g1 : w2.cell? ⟨g, o + 1, none⟩ = some (.slice (some ⟨gv, 0, none⟩) c.vs.length k1) := by
        rw [cell_at ((hk2.block _ (heap_lt H.out.hg) (by simpa using fun e => HG.out e.symm)).trans H.out.hg)]
        rw [cell_at H.out.hg] at h2
        exact h2
      have g3 : w2.cell? ⟨gv, i, none⟩ = some (.int .i64 (wrap64 (nth c.vs i + nth a 1))) := own_cells ho2 i _ (by rw [numC_get _ _ (by simpa using hlt)]; simp [nth, hlt])
      have HF : Hid (Dod w B g o L (.slice (some ⟨gv, 0, none⟩) c.vs.length k1) p ((wrap64 (nth c.vs i + nth a 1), 0), { c with vs := c.vs.set i (wrap64 (nth c.vs i + nth a 1)) }) (.returned (.tuple #[.int .i64 (wrap64 (nth c.vs i + nth a 1)), .int .i64 0])) w2) := Dod.valsIn H.out (vs' := c.vs.set i (wrap64 (nth c.vs i + nth a 1))) (by rw [List.length_set]; exact ho2) hk2 HK.out (wrap64 (nth c.vs i + nth a 1), 0)
      clear hk2 ho2 hw2 hx x2 hy hy2 h2
      go_wp2_with fail
      go_ret2
      exact HF.out
    · rw [if_neg e1]
      have hd1 : (call == 1) = false := by simpa using e1
      clear hc hq hi hok hca hdis h1 hk e1
      go_enter Try.func32, Try.ntmps32
      go_wp2_with fail
      go_ret2
      exact Dod.same H.out (Below.refl _ _) (nth c.vs i, 0)
theorem queues_any {w : World} {B g o : Nat} {L : List Value} {c : Co} {v p va : Value} {a : List Int} (call : Int) (h : ShAt w B g o L c v p) (ha : Nl w va a) (h1 : ar2 call = (a.length : Int)) (hk : c.kd = 2) (hB : B ≤ w.heap.size) : Calls Try.prog 33 #[.pointer (some ⟨g, o, none⟩), .int .i64 c.cap, .int .i64 call, va] w (Dod w B g o L v p (queV c call a)) := by
  have hok : CoOk (queV c call a).2 := h.ok.que hk call ha.w64
  obtain ⟨h0, h2, h3⟩ := h.cells
  have hf := h.frozen (o + 1)
  have hvm := h.ok.vm
  have hc16 := h.ok.c16
  have hvn : c.vs.length ≤ 16 := by omega
  have hnl := Nl.of_own h.hv (by omega) h.ok.sv
  obtain ⟨a1, k1, rfl⟩ := own_slice h.hv
  obtain ⟨_, hb, hc⟩ := nl_cells hnl
  obtain ⟨a2, c2, rfl⟩ := nl_slice ha
  obtain ⟨_, hal, hca⟩ := nl_cells ha
  have H : Hid (ShAt w B g o L c (.slice a1 c.vs.length k1) p) := h
  have hgl := heap_lt h.hg
  obtain ⟨i0, hi, hz0, hz1, hz2⟩ := info_parts info_i64
  have hgv : (Value.slice a1 c.vs.length k1).ownBlock ≠ some g := own_ne H.out.hv H.out.hg i64_shp
  unfold queV at hok ⊢
  clear h h0 h3 ha hk
  by_cases e5 : call = 5
  · subst e5
    rw [if_pos rfl]
    clear hok hca hc
    go_enter Try.func33, Try.ntmps33
    go_wp2_with fail
    go_ret2
    exact Dod.same H.out (Below.refl _ _) ((c.vs.length : Int), 0)
  · rw [if_neg e5] at hok ⊢
    have d5 : (call == 5) = false := by simpa using e5
    by_cases e3 : call = 3
    · subst e3
      rw [if_pos rfl] at hok ⊢
      obtain ⟨y, rfl, hyb, hy⟩ := hca 0 (by have : ar2 3 = 1 := rfl; omega)
      have hl1 : a.length = 1 := by have : ar2 3 = 1 := rfl; omega
      rw [hl1]
      rw [add_zero'] at hy
      clear hc hca d5 e5 h1
      by_cases hfull : c.cap ≤ (c.vs.length : Int)
      · rw [if_pos hfull]
        have hd1 : decide (c.cap ≤ (c.vs.length : Int)) = true := by simpa using hfull
        clear hok hfull hvm hc16
        go_enter Try.func33, Try.ntmps33
        go_wp2_with fail
        go_ret2
        exact Dod.same H.out (Below.refl _ _) (0, 2)
      · rw [if_neg hfull] at hok ⊢
        have hd1 : decide (c.cap ≤ (c.vs.length : Int)) = false := by simpa using hfull
        have HK : Hid (CoOk { c with vs := c.vs ++ [nth a 0] }) := hok
        generalize nth a 0 = x at *
        have HOWN : Hid (w.ownsRow B 2 1 (.slice a1 c.vs.length k1) c.vs.length (numC c.vs)) := H.out.hv
        generalize hxs : numC c.vs = xs at *
        generalize hnn : c.vs.length = n at *
        clear hok hfull hvm hc16
        go_enter Try.func33, Try.ntmps33
        go_wp2_with fail
        go_region_law
          ((refine step_lies_wide _ (by rfl) _ _ _ (by rfl) B 2 i0 _ 1 8 Try.underlying36 hi hz0 hz1 hz2 rfl (by omega) (.slice a1 n k1) n xs (by rfl) ((HOWN.out.alloc _).drew) ⟨w.heap.size, 0, none⟩ 1 1 [.int .i64 x] (by rfl) (by rfl) (World.news_of_block (cs := #[.int .i64 x]) (t := 2) (fr := (0, 0)) (heap_alloc_new w _)) (by simp [Value.oneCell']) (by omega) (by unfold maxLen; omega) (by omega) (by simp; omega) (w.heap.size + 1) (by simp) ?_; intro gg cap' w1 hown1 hgrow hat hlt; have hs1 : w1.cell? ⟨g, o + 1, none⟩ = some (.slice a1 n k1) := (by rw [hgrow.cell_far _ (by simp; omega) (Ne.symm hgv)]; simp [hgl, World.cell?_alloc_past, h2]); have hs2 : w1.frozen? ⟨g, o + 1, none⟩ = false := (by rw [hgrow.frozen_far _ (by simp; omega) (Ne.symm hgv)]; rw [fr_drew, World.frozen?_alloc_past _ _ _ hgl]; exact hf)))
        all_goals
          have hN : Next (Value.ownBlock (.slice a1 n k1)).toList (Value.ownBlock (.slice (some ⟨gg, 0, none⟩) (n + 1) cap')).toList w w1 := grow_next (Below.refl _ _) hgrow hat
          have HF : Hid (Dod w B g o L (.slice a1 n k1) p ((0, 0), { c with vs := c.vs ++ [x] }) (.returned (.tuple #[.int .i64 0, .int .i64 0])) (w1.setCell ⟨g, o + 1, none⟩ (.slice (some ⟨gg, 0, none⟩) (n + 1) cap'))) := by
            have ho : w1.ownsRow B 2 1 (.slice (some ⟨gg, 0, none⟩) (n + 1) cap') (c.vs ++ [x]).length (numC (c.vs ++ [x])) := by
              rw [numC_snoc, hxs, List.length_append, hnn]
              exact hown1
            exact Dod.vals H.out ho hN HK.out (0, 0)
          clear hown1 hgrow hat hlt hs1 hs2 hN
          go_wp2_with fail
          go_ret2
          exact HF.out
    · rw [if_neg e3] at hok ⊢
      have d3 : (call == 3) = false := by simpa using e3
      by_cases hz : c.vs.length = 0
      · rw [if_pos hz]
        have h2' : w.cell? ⟨g, o + 1, none⟩ = some (.slice a1 0 k1) := hz ▸ h2
        clear hok h2 hca hc hz hvn hvm hc16
        go_enter Try.func33, Try.ntmps33
        go_wp2_with fail
        go_ret2
        exact Dod.same H.out (Below.refl _ _) (0, 1)
      · rw [if_neg hz] at hok ⊢
        have hd0 : ((c.vs.length : Int) == 0) = false := beq_eq_false_iff_ne.2 (by omega)
        have hposI : (0 : Int) < (c.vs.length : Int) := by omega
        have HK : Hid (CoOk { c with vs := del c.vs 0 }) := hok
        obtain ⟨x, rfl, hxb, hx⟩ := hc 0 (by omega)
        obtain ⟨gv, rfl⟩ := own_at0 H.out.hv
        rw [add_zero'] at hx
        have hdl : (del c.vs 0).length = c.vs.length - 1 := del_len _ _ (by omega)
        have HDE : Hid (del c.vs 0 = c.vs.drop 1) := rfl
        have HNL := Sg.tail H.out.hv numC_one (i := 1)
        have hcapl := (own_cap H.out.hv).1
        clear hok hca hc hvm hc16 e5 e3 h1 hz
        by_cases hk1 : k1 = 1
        · subst hk1
          have hn1 : c.vs.length = 1 := by omega
          have HF : Hid (Dod w B g o L (.slice (some ⟨gv, 0, none⟩) c.vs.length 1) p ((nth c.vs 0, 0), { c with vs := del c.vs 0 }) (.returned (.tuple #[.int .i64 (nth c.vs 0), .int .i64 0])) (w.setCell ⟨g, o + 1, none⟩ (.slice none 0 0))) := by
            have ho : w.ownsRow B 2 1 (.slice none 0 0) (del c.vs 0).length (numC (del c.vs 0)) := by
              have e : del c.vs 0 = [] := List.eq_nil_of_length_eq_zero (by rw [hdl]; omega)
              rw [e]
              exact World.ownsRow_nil _ _ _ _
            exact Dod.vals H.out ho ⟨Keep.refl _ _, fun b hb => by simp [Value.ownBlock] at hb⟩ HK.out (nth c.vs 0, 0)
          rw [hn1] at h2 HF ⊢
          clear HNL hdl HK H HDE hvn hcapl hposI hd0 hgv hn1
          go_enter Try.func33, Try.ntmps33
          go_wp2_with fail
          go_ret2
          exact HF.out
        · have HNL2 : Hid (Sg w 1 (.slice (some ⟨gv, 1, none⟩) (c.vs.length - 1) (k1 - 1)) (c.vs.length - 1) (numC (del c.vs 0))) := by
            rw [HDE.out, ← numC_drop]
            exact HNL
          have hlen1 : c.vs.length - 1 ≤ 16 := by omega
          clear HNL hcapl
          go_enter Try.func33, Try.ntmps33
          go_wp2_with (at_builtin; refine wpList_append_sg _ rfl _ _ rfl Try.underlying36 hi hz0 hz1 hz2 rfl (by decide) (by decide) w.heap.size (.slice none 0 0) 0 [] rfl (World.ownsRow_nil _ _ _ _) _ _ _ rfl HNL2.out ?c1 ?c2 ?_)
          case c1 => omega
          intro v1 w1 hown1 hgr1
          obtain ⟨a3, c3, rfl⟩ := own_slice hown1
          have hb1 : Below w.heap.size w w1 := (Below.refl _ _).grown hgr1 (Nat.le_refl _) (fun b hb => by cases hb)
          have s1 : w1.cell? ⟨g, o + 1, none⟩ = some (.slice (some ⟨gv, 0, none⟩) c.vs.length k1) := cell_later hb1 (a := ⟨g, o + 1, none⟩) hgl h2
          have s2 : w1.frozen? ⟨g, o + 1, none⟩ = false := frozen_at ((hb1.block _ hgl).trans H.out.hg) _
          have HF := Dod.fresh H.out hB hb1 (by rw [hdl]; exact hown1) HK.out (nth c.vs 0, 0)
          clear hown1 hgr1 hb1 h2 hf HNL2 hvn
          go_wp2_with fail
          go_ret2
          exact HF.out
end Go.Proofs.Ytgbmnngmfcneaaa.Pl
