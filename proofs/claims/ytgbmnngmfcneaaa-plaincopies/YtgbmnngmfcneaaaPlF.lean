/- A chain's calls: the program's. -/
import Derived.Test.YtgbmnngmfcneaaaPlE
namespace Go.Proofs.Ytgbmnngmfcneaaa.Pl
open Go.ChangeShapes Go.WideShapes Go.ChangeAt Go.RowKit
attribute [local go_sem ↓] Go.wp_at_zero Go.wp_at_succ

theorem Did.behind {w w1 w2 : World} {B g o : Nat} {L : List Value} {v p : Value} {x : (Int × Int) × Co} {e : Ending} (hb : Below w.heap.size w w1) (h : Did w1 B g o L v p x e w2) : Did w B g o L v p x e w2 := by
  obtain ⟨he, v', p', hc, hn, hf1, hf2⟩ := h
  exact ⟨he, v', p', hc, (Keep.of_below hb _).trans hn (fun b hb => Or.inl hb), Fr.later hb.size hf1, Fr.later hb.size hf2⟩
theorem haskey_any {w : World} {B g o : Nat} {L : List Value} {c : Co} {v p va : Value} {a : List Int} (h : ColAt w B g o L c v p) (ha : Nl w va a) (h1 : a.length = 1) (hk : c.kd = 4) : Calls Try.prog 66 #[.pointer (some ⟨g, o, none⟩), va] w (Did w B g o L v p (chaV c 6 a)) := by
  have hok : CoOk (chaV c 6 a).2 := h.ok.cha hk 6 ha.w64
  have hr := h.ok.r4 hk
  have hvm := h.ok.vm
  have hc16 := h.ok.c16
  have hcells := h.cells
  have hf := h.frozen (o + 2)
  have hvn : c.vs.length ≤ 16 := by omega
  have hnl := Nl.of_own h.hv (by omega) h.ok.sv
  obtain ⟨a1, k1, rfl⟩ := own_slice h.hv
  obtain ⟨a2, c2, rfl⟩ := nl_slice ha
  obtain ⟨_, _, hca⟩ := nl_cells ha
  obtain ⟨y, rfl, hyb, hy⟩ := hca 0 (by omega)
  have H : Hid (ColAt w B g o L c (.slice a1 c.vs.length k1) p) := h
  have hgl := heap_lt h.hg
  rw [h1]
  rw [add_zero'] at hy
  have HFD : Hid (∀ w' : World, Below w.heap.size w w' → Calls Try.prog 82 #[.slice a1 c.vs.length k1, .func (.func 83) #[] #[], .int .i64 (nth a 0)] w' fun e w'' => e = .returned (.tuple #[.int .i64 (lb c.vs (nth a 0) : Int), .bool (thB c.vs (nth a 0))]) ∧ Below w'.heap.size w' w'') := fun w' hb => findi_any _ (hnl.later hb (Nat.le_refl _)) hr (by omega)
  have hlb := lb_le c.vs (nth a 0)
  have HT : Hid (thB c.vs (nth a 0) = true → lb c.vs (nth a 0) < c.vs.length) := fun h => (thB_yes h).1
  have e : chaV c 6 a = ((if thB c.vs (nth a 0) then 1 else 0, 0), c) := rfl
  rw [e]
  clear e hok h ha hca hnl hr hk hvm hc16 h1
  obtain ⟨q, hq⟩ : ∃ q, thB c.vs (nth a 0) = q := ⟨_, rfl⟩
  rw [hq] at HFD ⊢
  obtain ⟨h0, h1', h2, h3⟩ := hcells
  clear hq HT h0 h1' h3
  cases q
  all_goals
    go_enter Try.func66, Try.ntmps66
    go_wp2_with fail
    go_region_held3 (fun w' => w'.cell? ⟨g, o + 2, none⟩ = some (.slice a1 c.vs.length k1) ∧ w'.cell? y = some (.int .i64 (nth a 0))) (first | go_keep | exact hS) ((go_at_call 82; refine (HFD.out _ (Below.refl _ _).drew).mono ?_; rintro e w1 ⟨rfl, hb0⟩; have hb1 : Below w.heap.size w w1 := ⟨hb0.os, hb0.tape, hb0.output, hb0.size, hb0.block⟩; have hS : w1.cell? ⟨g, o + 2, none⟩ = some (.slice a1 c.vs.length k1) ∧ w1.cell? y = some (.int .i64 (nth a 0)) := ⟨cell_later hb1 (a := ⟨g, o + 2, none⟩) hgl h2, cell_later hb1 hyb hy⟩))
    go_wp2_with fail
    go_ret2
    exact Did.same H.out hb1 _
theorem least_any {w : World} {B g o : Nat} {L : List Value} {c : Co} {v p : Value} (h : ColAt w B g o L c v p) (va : Value) (a : List Int) : Calls Try.prog 67 #[.pointer (some ⟨g, o, none⟩), va] w (Did w B g o L v p (chaV c 7 a)) := by
  have e : chaV c 7 a = (keyV c 0, c) := rfl
  rw [e]
  have HK : Hid (Calls Try.prog 85 #[.pointer (some ⟨g, o, none⟩), .int .i64 0] w (Did w B g o L v p (keyV c 0, c))) := keyat_any (i := 0) h (Nat.zero_le _)
  clear h e
  go_enter Try.func67, Try.ntmps67
  go_wp2_with fail
  refine HK.out.mono ?_
  rintro e w1 hd
  obtain ⟨rfl, hd2⟩ := hd
  go_wp2_with fail
  go_ret2
  exact ⟨rfl, hd2⟩
theorem nextk_any {w : World} {B g o : Nat} {L : List Value} {c : Co} {v p va : Value} {a : List Int} (h : ColAt w B g o L c v p) (ha : Nl w va a) (h1 : a.length = 1) (hk : c.kd = 4) : Calls Try.prog 68 #[.pointer (some ⟨g, o, none⟩), va] w (Did w B g o L v p (chaV c 8 a)) := by
  have hok : CoOk (chaV c 8 a).2 := h.ok.cha hk 8 ha.w64
  have hr := h.ok.r4 hk
  have hvm := h.ok.vm
  have hc16 := h.ok.c16
  have hcells := h.cells
  have hf := h.frozen (o + 2)
  have hvn : c.vs.length ≤ 16 := by omega
  have hnl := Nl.of_own h.hv (by omega) h.ok.sv
  obtain ⟨a1, k1, rfl⟩ := own_slice h.hv
  obtain ⟨a2, c2, rfl⟩ := nl_slice ha
  obtain ⟨_, _, hca⟩ := nl_cells ha
  obtain ⟨y, rfl, hyb, hy⟩ := hca 0 (by omega)
  have H : Hid (ColAt w B g o L c (.slice a1 c.vs.length k1) p) := h
  have hgl := heap_lt h.hg
  rw [h1]
  rw [add_zero'] at hy
  have HFD : Hid (∀ w' : World, Below w.heap.size w w' → Calls Try.prog 82 #[.slice a1 c.vs.length k1, .func (.func 83) #[] #[], .int .i64 (nth a 0)] w' fun e w'' => e = .returned (.tuple #[.int .i64 (lb c.vs (nth a 0) : Int), .bool (thB c.vs (nth a 0))]) ∧ Below w'.heap.size w' w'') := fun w' hb => findi_any _ (hnl.later hb (Nat.le_refl _)) hr (by omega)
  have hlb := lb_le c.vs (nth a 0)
  have HT : Hid (thB c.vs (nth a 0) = true → lb c.vs (nth a 0) < c.vs.length) := fun h => (thB_yes h).1
  have e : chaV c 8 a = (keyV c (if thB c.vs (nth a 0) then lb c.vs (nth a 0) + 1 else lb c.vs (nth a 0)), c) := rfl
  rw [e]
  have HK : Hid (∀ (w' : World) (i : Nat), Below w.heap.size w w' → i ≤ c.vs.length → Calls Try.prog 85 #[.pointer (some ⟨g, o, none⟩), .int .i64 (i : Int)] w' (Did w' B g o L (.slice a1 c.vs.length k1) p (keyV c i, c))) := fun w' i hb hi => keyat_any (h.later hb) hi
  clear e hok h ha hca hnl hr hk hvm hc16 h1
  obtain ⟨q, hq⟩ : ∃ q, thB c.vs (nth a 0) = q := ⟨_, rfl⟩
  rw [hq] at HFD HT ⊢
  obtain ⟨h0, h1', h2, h3⟩ := hcells
  clear hq h0 h1' h3
  generalize lb c.vs (nth a 0) = i at *
  cases q with
  | false =>
    go_enter Try.func68, Try.ntmps68
    go_wp2_with fail
    go_region_held3 (fun w' => w'.cell? ⟨g, o + 2, none⟩ = some (.slice a1 c.vs.length k1) ∧ w'.cell? y = some (.int .i64 (nth a 0))) (first | go_keep | exact hS) ((go_at_call 82; refine (HFD.out _ (Below.refl _ _).drew).mono ?_; rintro e w1 ⟨rfl, hb0⟩; have hb1 : Below w.heap.size w w1 := ⟨hb0.os, hb0.tape, hb0.output, hb0.size, hb0.block⟩; have hS : w1.cell? ⟨g, o + 2, none⟩ = some (.slice a1 c.vs.length k1) ∧ w1.cell? y = some (.int .i64 (nth a 0)) := ⟨cell_later hb1 (a := ⟨g, o + 2, none⟩) hgl h2, cell_later hb1 hyb hy⟩))
    go_wp2_with fail
    refine (HK.out _ i hb1 hlb).mono ?_
    rintro e w2 ⟨rfl, hd⟩
    go_wp2_with fail
    go_ret2
    exact Did.behind hb1 ⟨rfl, hd⟩
  | true =>
    have hlt : i < c.vs.length := HT.out rfl
    have hw : wrap64 ((i : Int) + 1) = ((i + 1 : Nat) : Int) := by unfold wrap64; omega
    go_enter Try.func68, Try.ntmps68
    go_wp2_with fail
    go_region_held3 (fun w' => w'.cell? ⟨g, o + 2, none⟩ = some (.slice a1 c.vs.length k1) ∧ w'.cell? y = some (.int .i64 (nth a 0))) (first | go_keep | exact hS) ((go_at_call 82; refine (HFD.out _ (Below.refl _ _).drew).mono ?_; rintro e w1 ⟨rfl, hb0⟩; have hb1 : Below w.heap.size w w1 := ⟨hb0.os, hb0.tape, hb0.output, hb0.size, hb0.block⟩; have hS : w1.cell? ⟨g, o + 2, none⟩ = some (.slice a1 c.vs.length k1) ∧ w1.cell? y = some (.int .i64 (nth a 0)) := ⟨cell_later hb1 (a := ⟨g, o + 2, none⟩) hgl h2, cell_later hb1 hyb hy⟩))
    go_wp2_with fail
    refine (HK.out _ (i + 1) hb1 hlt).mono ?_
    rintro e w2 ⟨rfl, hd⟩
    go_wp2_with fail
    go_ret2
    exact Did.behind hb1 ⟨rfl, hd⟩
theorem addkey_any {w : World} {B g o : Nat} {L : List Value} {c : Co} {v p va : Value} {a : List Int} (h : ColAt w B g o L c v p) (ha : Nl w va a) (h1 : a.length = 1) (hk : c.kd = 4) (hB : B ≤ w.heap.size) : Calls Try.prog 64 #[.pointer (some ⟨g, o, none⟩), va] w (Did w B g o L v p (chaV c 1 a)) := by
  have hok : CoOk (chaV c 1 a).2 := h.ok.cha hk 1 ha.w64
  have hr := h.ok.r4 hk
  have hvm := h.ok.vm
  have hc16 := h.ok.c16
  have hcells := h.cells
  have hf := h.frozen (o + 2)
  have hvn : c.vs.length ≤ 16 := by omega
  have hnl := Nl.of_own h.hv (by omega) h.ok.sv
  obtain ⟨a1, k1, rfl⟩ := own_slice h.hv
  obtain ⟨a2, c2, rfl⟩ := nl_slice ha
  obtain ⟨_, _, hca⟩ := nl_cells ha
  obtain ⟨y, rfl, hyb, hy⟩ := hca 0 (by omega)
  have H : Hid (ColAt w B g o L c (.slice a1 c.vs.length k1) p) := h
  have hgl := heap_lt h.hg
  rw [h1]
  rw [add_zero'] at hy
  have HFD : Hid (∀ w' : World, Below w.heap.size w w' → Calls Try.prog 82 #[.slice a1 c.vs.length k1, .func (.func 83) #[] #[], .int .i64 (nth a 0)] w' fun e w'' => e = .returned (.tuple #[.int .i64 (lb c.vs (nth a 0) : Int), .bool (thB c.vs (nth a 0))]) ∧ Below w'.heap.size w' w'') := fun w' hb => findi_any _ (hnl.later hb (Nat.le_refl _)) hr (by omega)
  have hlb := lb_le c.vs (nth a 0)
  have HT : Hid (thB c.vs (nth a 0) = true → lb c.vs (nth a 0) < c.vs.length) := fun h => (thB_yes h).1
  have e : chaV c 1 a = (if thB c.vs (nth a 0) then ((0, 3), c) else if c.cap ≤ (c.vs.length : Int) then ((0, 2), c) else ((0, 0), { c with vs := ins c.vs (lb c.vs (nth a 0)) (nth a 0) })) := rfl
  rw [e] at hok ⊢
  have HWI : Hid (∀ w' : World, Below w.heap.size w w' → Calls Try.prog 84 #[.slice a1 c.vs.length k1, .int .i64 (lb c.vs (nth a 0) : Int), .int .i64 (nth a 0)] w' fun e w'' => ∃ g' cap', e = .returned (.slice (some ⟨g', 0, none⟩) (c.vs.length + 1) cap') ∧ w''.ownsRow B 2 1 (.slice (some ⟨g', 0, none⟩) (c.vs.length + 1) cap') (c.vs.length + 1) (numC (ins c.vs (lb c.vs (nth a 0)) (nth a 0))) ∧ Next (Value.ownBlock (.slice a1 c.vs.length k1)).toList [g'] w' w'') := fun w' hb => withi_any (nth a 0) (h.later hb).hv hlb (by omega) (Nat.le_trans hB hb.size)
  clear e h ha hca hnl hr hk h1
  obtain ⟨q, hq⟩ : ∃ q, thB c.vs (nth a 0) = q := ⟨_, rfl⟩
  rw [hq] at HFD hok ⊢
  obtain ⟨h0, h1', h2, h3⟩ := hcells
  clear HT h0 h3
  have hIL := ins_len c.vs (lb c.vs (nth a 0)) (nth a 0) hlb
  cases q with
  | true =>
    clear hok hq
    go_enter Try.func64, Try.ntmps64
    go_wp2_with fail
    go_region_held3 (fun w' => w'.cell? ⟨g, o + 2, none⟩ = some (.slice a1 c.vs.length k1) ∧ w'.cell? y = some (.int .i64 (nth a 0))) (first | go_keep | exact hS) ((go_at_call 82; refine (HFD.out _ (Below.refl _ _).drew).mono ?_; rintro e w1 ⟨rfl, hb0⟩; have hb1 : Below w.heap.size w w1 := ⟨hb0.os, hb0.tape, hb0.output, hb0.size, hb0.block⟩; have hS : w1.cell? ⟨g, o + 2, none⟩ = some (.slice a1 c.vs.length k1) ∧ w1.cell? y = some (.int .i64 (nth a 0)) := ⟨cell_later hb1 (a := ⟨g, o + 2, none⟩) hgl h2, cell_later hb1 hyb hy⟩))
    go_wp2_with fail
    go_ret2
    exact Did.same H.out hb1 _
  | false =>
    rw [if_neg (by decide)] at hok ⊢
    by_cases hfull : c.cap ≤ (c.vs.length : Int)
    · rw [if_pos hfull]
      have he : c.cap = (c.vs.length : Int) := by omega
      rw [he] at h1'
      clear hok hq
      have he' : Hid (c.cap = (c.vs.length : Int)) := he
      clear he hfull hvm hc16
      go_enter Try.func64, Try.ntmps64
      go_wp2_with fail
      go_region_held3 (fun w' => w'.cell? ⟨g, o + 2, none⟩ = some (.slice a1 c.vs.length k1) ∧ w'.cell? y = some (.int .i64 (nth a 0))) (first | go_keep | exact hS) ((go_at_call 82; refine (HFD.out _ (Below.refl _ _).drew).mono ?_; rintro e w1 ⟨rfl, hb0⟩; have hb1 : Below w.heap.size w w1 := ⟨hb0.os, hb0.tape, hb0.output, hb0.size, hb0.block⟩; have hS : w1.cell? ⟨g, o + 2, none⟩ = some (.slice a1 c.vs.length k1) ∧ w1.cell? y = some (.int .i64 (nth a 0)) := ⟨cell_later hb1 (a := ⟨g, o + 2, none⟩) hgl h2, cell_later hb1 hyb hy⟩))
      have f1 : w1.cell? ⟨g, o + 1, none⟩ = some (.int .i64 (c.vs.length : Int)) := cell_later hb1 (a := ⟨g, o + 1, none⟩) hgl h1'
      have f2 : w1.cell? ⟨g, o + 2, none⟩ = some (.slice a1 c.vs.length k1) := cell_later hb1 (a := ⟨g, o + 2, none⟩) hgl h2
      have HB : Hid (Below w.heap.size w w1) := hb1
      clear hb1 h2 h1' hy
      go_wp2_with fail
      go_quiet (fail)
      go_wp2_with fail
      go_ret2
      exact Did.same H.out (below_drawn HB.out _) (0, 2)
    · rw [if_neg hfull] at hok ⊢
      have hd : ((c.vs.length : Int) == c.cap) = false := beq_eq_false_iff_ne.2 (by omega)
      have HK : Hid (CoOk { c with vs := ins c.vs (lb c.vs (nth a 0)) (nth a 0) }) := hok
      clear hok hq hfull hvm hc16
      go_enter Try.func64, Try.ntmps64
      go_wp2_with fail
      go_region_held3 (fun w' => w'.cell? ⟨g, o + 2, none⟩ = some (.slice a1 c.vs.length k1) ∧ w'.cell? y = some (.int .i64 (nth a 0))) (first | go_keep | exact hS) ((go_at_call 82; refine (HFD.out _ (Below.refl _ _).drew).mono ?_; rintro e w1 ⟨rfl, hb0⟩; have hb1 : Below w.heap.size w w1 := ⟨hb0.os, hb0.tape, hb0.output, hb0.size, hb0.block⟩; have hS : w1.cell? ⟨g, o + 2, none⟩ = some (.slice a1 c.vs.length k1) ∧ w1.cell? y = some (.int .i64 (nth a 0)) := ⟨cell_later hb1 (a := ⟨g, o + 2, none⟩) hgl h2, cell_later hb1 hyb hy⟩))
      have hgl1 : w1.heap[g]? = some (.cells L.toArray 70 (0, 0)) := (H.out.later hb1).hg
      have H1 : Hid (ColAt w1 B g o L c (.slice a1 c.vs.length k1) p) := H.out.later hb1
      obtain ⟨f0, f1, f2, f3⟩ := H1.out.cells
      have y1 : w1.cell? y = some (.int .i64 (nth a 0)) := cell_later hb1 hyb hy
      have HB : Hid (Below w.heap.size w w1) := hb1
      clear hb1 h2 hy f0 f3 h1'
      go_wp2_with fail
      go_quiet (fail)
      go_wp2_with fail
      obtain ⟨wz, hwz⟩ : ∃ wz, wz = w1.drewN nq := ⟨_, rfl⟩
      rw [← hwz]
      have z1 : wz.cell? ⟨g, o + 2, none⟩ = some (.slice a1 c.vs.length k1) := by rw [hwz]; exact f2
      have z2 : wz.cell? y = some (.int .i64 (nth a 0)) := by rw [hwz]; exact y1
      have HZ : Hid (Below w.heap.size w wz) := by rw [hwz]; exact below_drawn HB.out _
      clear hwz f1 f2 y1 hgl1 H1 HB
      go_region_with ((go_at_call 84; refine (HWI.out _ (below_drawn HZ.out 1)).mono ?_; rintro e w2 ⟨g2, k2, rfl, ho2, hn2⟩; have hN : Next (Value.ownBlock (.slice a1 c.vs.length k1)).toList [g2] w w2 := (Next.of_below (below_drawn HZ.out 1) _).trans hn2; have hg2 : w2.heap[g]? = some (.cells L.toArray 70 (0, 0)) := (hN.1.block _ hgl (fun e => own_ne H.out.hv H.out.hg i64_coll (by simpa using e))).trans H.out.hg; have s1 : w2.cell? ⟨g, o + 2, none⟩ = some (.slice a1 c.vs.length k1) := ((cell_at hg2 _).trans (by simp)).trans H.out.h2; have s2 : w2.frozen? ⟨g, o + 2, none⟩ = false := frozen_at hg2 _))
      all_goals
        have HF : Hid (Did w B g o L (.slice a1 c.vs.length k1) p ((0, 0), { c with vs := ins c.vs (lb c.vs (nth a 0)) (nth a 0) }) (.returned (.tuple #[.int .i64 0, .int .i64 0])) (w2.setCell ⟨g, o + 2, none⟩ (.slice (some ⟨g2, 0, none⟩) (c.vs.length + 1) k2))) := by
          have ho : w2.ownsRow B 2 1 (.slice (some ⟨g2, 0, none⟩) (c.vs.length + 1) k2) (ins c.vs (lb c.vs (nth a 0)) (nth a 0)).length (numC (ins c.vs (lb c.vs (nth a 0)) (nth a 0))) := by
            rw [hIL]
            exact ho2
          exact Did.vals H.out ho hN HK.out (0, 0)
        clear ho2 hn2 hN hg2 s1 s2
        go_wp2_with fail
        go_ret2
        exact HF.out
theorem delkey_any {w : World} {B g o : Nat} {L : List Value} {c : Co} {v p va : Value} {a : List Int} (h : ColAt w B g o L c v p) (ha : Nl w va a) (h1 : a.length = 1) (hk : c.kd = 4) : Calls Try.prog 65 #[.pointer (some ⟨g, o, none⟩), va] w (Did w B g o L v p (chaV c 4 a)) := by
  have hok : CoOk (chaV c 4 a).2 := h.ok.cha hk 4 ha.w64
  have hr := h.ok.r4 hk
  have hvm := h.ok.vm
  have hc16 := h.ok.c16
  have hcells := h.cells
  have hf := h.frozen (o + 2)
  have hvn : c.vs.length ≤ 16 := by omega
  have hnl := Nl.of_own h.hv (by omega) h.ok.sv
  obtain ⟨a1, k1, rfl⟩ := own_slice h.hv
  obtain ⟨a2, c2, rfl⟩ := nl_slice ha
  obtain ⟨_, _, hca⟩ := nl_cells ha
  obtain ⟨y, rfl, hyb, hy⟩ := hca 0 (by omega)
  have H : Hid (ColAt w B g o L c (.slice a1 c.vs.length k1) p) := h
  have hgl := heap_lt h.hg
  rw [h1]
  rw [add_zero'] at hy
  have HFD : Hid (∀ w' : World, Below w.heap.size w w' → Calls Try.prog 82 #[.slice a1 c.vs.length k1, .func (.func 83) #[] #[], .int .i64 (nth a 0)] w' fun e w'' => e = .returned (.tuple #[.int .i64 (lb c.vs (nth a 0) : Int), .bool (thB c.vs (nth a 0))]) ∧ Below w'.heap.size w' w'') := fun w' hb => findi_any _ (hnl.later hb (Nat.le_refl _)) hr (by omega)
  have hlb := lb_le c.vs (nth a 0)
  have HT : Hid (thB c.vs (nth a 0) = true → lb c.vs (nth a 0) < c.vs.length) := fun h => (thB_yes h).1
  have e : chaV c 4 a = (if thB c.vs (nth a 0) then ((0, 0), { c with vs := del c.vs (lb c.vs (nth a 0)) }) else ((0, 1), c)) := rfl
  rw [e] at hok ⊢
  clear e h ha hca hnl hr hk h1
  obtain ⟨q, hq⟩ : ∃ q, thB c.vs (nth a 0) = q := ⟨_, rfl⟩
  rw [hq] at HFD hok HT ⊢
  obtain ⟨h0, h1', h2, h3⟩ := hcells
  clear h0 h3 h1' hq
  cases q with
  | false =>
    clear hok
    go_enter Try.func65, Try.ntmps65
    go_wp2_with fail
    go_region_held3 (fun w' => w'.cell? ⟨g, o + 2, none⟩ = some (.slice a1 c.vs.length k1) ∧ w'.cell? y = some (.int .i64 (nth a 0))) (first | go_keep | exact hS) ((go_at_call 82; refine (HFD.out _ (Below.refl _ _).drew).mono ?_; rintro e w1 ⟨rfl, hb0⟩; have hb1 : Below w.heap.size w w1 := ⟨hb0.os, hb0.tape, hb0.output, hb0.size, hb0.block⟩; have hS : w1.cell? ⟨g, o + 2, none⟩ = some (.slice a1 c.vs.length k1) ∧ w1.cell? y = some (.int .i64 (nth a 0)) := ⟨cell_later hb1 (a := ⟨g, o + 2, none⟩) hgl h2, cell_later hb1 hyb hy⟩))
    go_wp2_with fail
    go_ret2
    exact Did.same H.out hb1 _
  | true =>
    rw [if_pos rfl] at hok ⊢
    have HK : Hid (CoOk { c with vs := del c.vs (lb c.vs (nth a 0)) }) := hok
    have hlt := HT.out rfl
    have hDL := del_len c.vs _ hlt
    have hpos : 0 < c.vs.length := by omega
    cases a1 with
    | none =>
      exfalso
      rcases H.out.hv.2 with ⟨_, h0⟩ | ⟨_, _, _, e, _⟩
      · omega
      · cases e
    | some x1 =>
    obtain ⟨gv, rfl⟩ := own_at0 H.out.hv
    have HW : Hid (∀ w' : World, Below w.heap.size w w' → Calls Try.prog 77 #[.slice (some ⟨gv, 0, none⟩) c.vs.length k1, .int .i64 (lb c.vs (nth a 0) : Int)] w' fun e w'' => e = .returned (.slice (some ⟨gv, 0, none⟩) (c.vs.length - 1) k1) ∧ w''.ownsRow B 2 1 (.slice (some ⟨gv, 0, none⟩) (c.vs.length - 1) k1) (c.vs.length - 1) (numC (del c.vs (lb c.vs (nth a 0)))) ∧ Keep [gv] w' w'') := fun w' hb => wouti_any (H.out.later hb).hv hlt (by omega)
    clear hok hvm hc16
    go_enter Try.func65, Try.ntmps65
    go_wp2_with fail
    go_region_held3 (fun w' => w'.cell? ⟨g, o + 2, none⟩ = some (.slice (some ⟨gv, 0, none⟩) c.vs.length k1) ∧ w'.cell? y = some (.int .i64 (nth a 0))) (first | go_keep | exact hS) ((go_at_call 82; refine (HFD.out _ (Below.refl _ _).drew).mono ?_; rintro e w1 ⟨rfl, hb0⟩; have hb1 : Below w.heap.size w w1 := ⟨hb0.os, hb0.tape, hb0.output, hb0.size, hb0.block⟩; have hS : w1.cell? ⟨g, o + 2, none⟩ = some (.slice (some ⟨gv, 0, none⟩) c.vs.length k1) ∧ w1.cell? y = some (.int .i64 (nth a 0)) := ⟨cell_later hb1 (a := ⟨g, o + 2, none⟩) hgl h2, cell_later hb1 hyb hy⟩))
    have H1 : Hid (ColAt w1 B g o L c (.slice (some ⟨gv, 0, none⟩) c.vs.length k1) p) := H.out.later hb1
    have f2 := H1.out.cells.2.2.1
    have HB : Hid (Below w.heap.size w w1) := hb1
    clear hb1 h2 hy
    go_wp2_with fail
    refine (HW.out _ HB.out).mono ?_
    rintro e w2 ⟨rfl, ho1, hk1⟩
    have hgv : gv ≠ g := fun e => own_ne H.out.hv H.out.hg i64_coll (e ▸ rfl)
    have hg1 : w2.heap[g]? = some (.cells L.toArray 70 (0, 0)) := by
      rw [hk1.block _ (heap_lt H1.out.hg) (by simpa using fun e => hgv e.symm)]
      exact H1.out.hg
    have z1 : w2.cell? ⟨g, o + 2, none⟩ = some (.slice (some ⟨gv, 0, none⟩) c.vs.length k1) := ((cell_at hg1 _).trans (by simp)).trans H.out.h2
    have z3 : w2.frozen? ⟨g, o + 2, none⟩ = false := frozen_at hg1 _
    have HF : Hid (Did w B g o L (.slice (some ⟨gv, 0, none⟩) c.vs.length k1) p ((0, 0), { c with vs := del c.vs (lb c.vs (nth a 0)) }) (.returned (.tuple #[.int .i64 0, .int .i64 0])) (w2.setCell ⟨g, o + 2, none⟩ (.slice (some ⟨gv, 0, none⟩) (c.vs.length - 1) k1))) := by
      have ho : w2.ownsRow B 2 1 (.slice (some ⟨gv, 0, none⟩) (c.vs.length - 1) k1) (del c.vs (lb c.vs (nth a 0))).length (numC (del c.vs (lb c.vs (nth a 0)))) := by
        rw [hDL]
        exact ho1
      exact Did.vals H.out ho ((Next.of_below HB.out _).trans ⟨hk1, fun b hb => Or.inl hb⟩) HK.out (0, 0)
    clear ho1 hk1 hg1 f2
    go_wp2_with fail
    go_ret2
    exact HF.out
end Go.Proofs.Ytgbmnngmfcneaaa.Pl
