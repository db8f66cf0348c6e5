/- A dict's calls: the program's. -/
import Derived.Test.YtgbmnngmfcneaaaPlF
namespace Go.Proofs.Ytgbmnngmfcneaaa.Pl
open Go.ChangeShapes Go.WideShapes Go.ChangeAt Go.RowKit
attribute [local go_sem ↓] Go.wp_at_zero Go.wp_at_succ

theorem getval_any {w : World} {B g o : Nat} {L : List Value} {c : Co} {v p va : Value} {a : List Int} (h : ColAt w B g o L c v p) (ha : Nl w va a) (h1 : a.length = 1) (hk : c.kd = 3) : Calls Try.prog 61 #[.pointer (some ⟨g, o, none⟩), va] w (Did w B g o L v p (dicV c 2 a)) := by
  have hok : CoOk (dicV c 2 a).2 := h.ok.dic hk 2 ha.w64
  have hr := h.ok.r3 hk
  have hpm := h.ok.pm
  have hc16 := h.ok.c16
  have hcells := h.cells
  have hf := h.frozen (o + 3)
  have hvn : c.ps.length ≤ 16 := by omega
  have hpn := Pn.of_own h.hp
  obtain ⟨a1, k1, rfl⟩ := own_slice h.hp
  obtain ⟨a2, c2, rfl⟩ := nl_slice ha
  obtain ⟨_, _, hca⟩ := nl_cells ha
  obtain ⟨y, rfl, hyb, hy⟩ := hca 0 (by omega)
  have H : Hid (ColAt w B g o L c v (.slice a1 c.ps.length k1)) := h
  have hgl := heap_lt h.hg
  rw [h1]
  rw [add_zero'] at hy
  have HFD : Hid (∀ w' : World, Below w.heap.size w w' → Calls Try.prog 78 #[.slice a1 c.ps.length k1, .func (.func 79) #[] #[], .int .i64 (nth a 0)] w' fun e w'' => e = .returned (.tuple #[.int .i64 (lb (keysP c.ps) (nth a 0) : Int), .bool (thB (keysP c.ps) (nth a 0))]) ∧ Below w'.heap.size w' w'') := fun w' hb => findp_any _ (Pn.of_own (h.later hb).hp) hr (by omega)
  have hlb : lb (keysP c.ps) (nth a 0) ≤ c.ps.length := by
    have := lb_le (keysP c.ps) (nth a 0)
    rwa [keys_len] at this
  have HT : Hid (thB (keysP c.ps) (nth a 0) = true → lb (keysP c.ps) (nth a 0) < c.ps.length) := fun h => by
    have := (thB_yes h).1
    rwa [keys_len] at this
  have HT2 : Hid (thB (keysP c.ps) (nth a 0) = true → (nthP c.ps (lb (keysP c.ps) (nth a 0))).1 = nth a 0) := fun h => by
    have := (thB_yes h).2
    rwa [keys_nth] at this
  have e : dicV c 2 a = (if thB (keysP c.ps) (nth a 0) then (((nthP c.ps (lb (keysP c.ps) (nth a 0))).2, 0), c) else ((0, 1), c)) := rfl
  rw [e] at hok ⊢
  clear e ha hca hpn hr hk h1 h
  obtain ⟨q, hq⟩ : ∃ q, thB (keysP c.ps) (nth a 0) = q := ⟨_, rfl⟩
  rw [hq] at HFD hok HT HT2 ⊢
  obtain ⟨h0, h1', h2, h3⟩ := hcells
  clear h0 h2 hq
  cases q with
  | false =>
    clear hok
    go_enter Try.func61, Try.ntmps61
    go_wp2_with fail
    go_region_held3 (fun w' => w'.cell? ⟨g, o + 3, none⟩ = some (.slice a1 c.ps.length k1) ∧ w'.cell? y = some (.int .i64 (nth a 0))) (first | go_keep | exact hS) ((go_at_call 78; refine (HFD.out _ (Below.refl _ _).drew).mono ?_; rintro e w1 ⟨rfl, hb0⟩; have hb1 : Below w.heap.size w w1 := ⟨hb0.os, hb0.tape, hb0.output, hb0.size, hb0.block⟩; have hS : w1.cell? ⟨g, o + 3, none⟩ = some (.slice a1 c.ps.length k1) ∧ w1.cell? y = some (.int .i64 (nth a 0)) := ⟨cell_later hb1 (a := ⟨g, o + 3, none⟩) hgl h3, cell_later hb1 hyb hy⟩))
    go_wp2_with fail
    go_ret2
    exact Did.same H.out hb1 _
  | true =>
    rw [if_pos rfl]
    have hlt := HT.out rfl
    have hpos : 0 < c.ps.length := by omega
    cases a1 with
    | none =>
      exfalso
      rcases H.out.hp.2 with ⟨_, h0⟩ | ⟨_, _, _, e, _⟩
      · omega
      · cases e
    | some x1 =>
    obtain ⟨gv, rfl⟩ := own_at0 H.out.hp
    have hcell := (prC_get c.ps _ hlt).2
    have hco := own_cells H.out.hp _ _ hcell
    have hgvl := (own_block H.out.hp gv rfl).2
    clear hok hpm hc16 hcell
    generalize lb (keysP c.ps) (nth a 0) = i at *
    go_enter Try.func61, Try.ntmps61
    go_wp2_with fail
    go_region_held3 (fun w' => w'.cell? ⟨g, o + 3, none⟩ = some (.slice (some ⟨gv, 0, none⟩) c.ps.length k1) ∧ w'.cell? y = some (.int .i64 (nth a 0))) (first | go_keep | exact hS) ((go_at_call 78; refine (HFD.out _ (Below.refl _ _).drew).mono ?_; rintro e w1 ⟨rfl, hb0⟩; have hb1 : Below w.heap.size w w1 := ⟨hb0.os, hb0.tape, hb0.output, hb0.size, hb0.block⟩; have hS : w1.cell? ⟨g, o + 3, none⟩ = some (.slice (some ⟨gv, 0, none⟩) c.ps.length k1) ∧ w1.cell? y = some (.int .i64 (nth a 0)) := ⟨cell_later hb1 (a := ⟨g, o + 3, none⟩) hgl h3, cell_later hb1 hyb hy⟩))
    have f3 : w1.cell? ⟨g, o + 3, none⟩ = some (.slice (some ⟨gv, 0, none⟩) c.ps.length k1) := cell_later hb1 (a := ⟨g, o + 3, none⟩) hgl h3
    have f4 : w1.cell? ⟨gv, i * 2 + 1, none⟩ = some (.int .i64 (nthP c.ps i).2) := cell_later hb1 (a := ⟨gv, i * 2 + 1, none⟩) hgvl hco
    have HB : Hid (Below w.heap.size w w1) := hb1
    clear hb1 h3 hy hco
    go_wp2_with fail
    go_ret2
    exact Did.same H.out HB.out ((nthP c.ps i).2, 0)
theorem delpair_any {w : World} {B g o : Nat} {L : List Value} {c : Co} {v p va : Value} {a : List Int} (h : ColAt w B g o L c v p) (ha : Nl w va a) (h1 : a.length = 1) (hk : c.kd = 3) : Calls Try.prog 63 #[.pointer (some ⟨g, o, none⟩), va] w (Did w B g o L v p (dicV c 4 a)) := by
  have hok : CoOk (dicV c 4 a).2 := h.ok.dic hk 4 ha.w64
  have hr := h.ok.r3 hk
  have hpm := h.ok.pm
  have hc16 := h.ok.c16
  have hcells := h.cells
  have hf := h.frozen (o + 3)
  have hvn : c.ps.length ≤ 16 := by omega
  have hpn := Pn.of_own h.hp
  obtain ⟨a1, k1, rfl⟩ := own_slice h.hp
  obtain ⟨a2, c2, rfl⟩ := nl_slice ha
  obtain ⟨_, _, hca⟩ := nl_cells ha
  obtain ⟨y, rfl, hyb, hy⟩ := hca 0 (by omega)
  have H : Hid (ColAt w B g o L c v (.slice a1 c.ps.length k1)) := h
  have hgl := heap_lt h.hg
  rw [h1]
  rw [add_zero'] at hy
  have HFD : Hid (∀ w' : World, Below w.heap.size w w' → Calls Try.prog 78 #[.slice a1 c.ps.length k1, .func (.func 79) #[] #[], .int .i64 (nth a 0)] w' fun e w'' => e = .returned (.tuple #[.int .i64 (lb (keysP c.ps) (nth a 0) : Int), .bool (thB (keysP c.ps) (nth a 0))]) ∧ Below w'.heap.size w' w'') := fun w' hb => findp_any _ (Pn.of_own (h.later hb).hp) hr (by omega)
  have hlb : lb (keysP c.ps) (nth a 0) ≤ c.ps.length := by
    have := lb_le (keysP c.ps) (nth a 0)
    rwa [keys_len] at this
  have HT : Hid (thB (keysP c.ps) (nth a 0) = true → lb (keysP c.ps) (nth a 0) < c.ps.length) := fun h => by
    have := (thB_yes h).1
    rwa [keys_len] at this
  have HT2 : Hid (thB (keysP c.ps) (nth a 0) = true → (nthP c.ps (lb (keysP c.ps) (nth a 0))).1 = nth a 0) := fun h => by
    have := (thB_yes h).2
    rwa [keys_nth] at this
  have e : dicV c 4 a = (if thB (keysP c.ps) (nth a 0) then ((0, 0), { c with ps := del c.ps (lb (keysP c.ps) (nth a 0)) }) else ((0, 1), c)) := rfl
  rw [e] at hok ⊢
  clear e ha hca hpn hr hk h1 h
  obtain ⟨q, hq⟩ : ∃ q, thB (keysP c.ps) (nth a 0) = q := ⟨_, rfl⟩
  rw [hq] at HFD hok HT HT2 ⊢
  obtain ⟨h0, h1', h2, h3⟩ := hcells
  clear h0 h2 hq
  cases q with
  | false =>
    clear hok
    go_enter Try.func63, Try.ntmps63
    go_wp2_with fail
    go_region_held3 (fun w' => w'.cell? ⟨g, o + 3, none⟩ = some (.slice a1 c.ps.length k1) ∧ w'.cell? y = some (.int .i64 (nth a 0))) (first | go_keep | exact hS) ((go_at_call 78; refine (HFD.out _ (Below.refl _ _).drew).mono ?_; rintro e w1 ⟨rfl, hb0⟩; have hb1 : Below w.heap.size w w1 := ⟨hb0.os, hb0.tape, hb0.output, hb0.size, hb0.block⟩; have hS : w1.cell? ⟨g, o + 3, none⟩ = some (.slice a1 c.ps.length k1) ∧ w1.cell? y = some (.int .i64 (nth a 0)) := ⟨cell_later hb1 (a := ⟨g, o + 3, none⟩) hgl h3, cell_later hb1 hyb hy⟩))
    go_wp2_with fail
    go_ret2
    exact Did.same H.out hb1 _
  | true =>
    rw [if_pos rfl] at hok ⊢
    have hlt := HT.out rfl
    have hpos : 0 < c.ps.length := by omega
    cases a1 with
    | none =>
      exfalso
      rcases H.out.hp.2 with ⟨_, h0⟩ | ⟨_, _, _, e, _⟩
      · omega
      · cases e
    | some x1 =>
    obtain ⟨gv, rfl⟩ := own_at0 H.out.hp
    have HK : Hid (CoOk { c with ps := del c.ps (lb (keysP c.ps) (nth a 0)) }) := hok
    have hDL := del_len c.ps _ hlt
    have HW : Hid (∀ w' : World, Below w.heap.size w w' → Calls Try.prog 81 #[.slice (some ⟨gv, 0, none⟩) c.ps.length k1, .int .i64 (lb (keysP c.ps) (nth a 0) : Int)] w' fun e w'' => e = .returned (.slice (some ⟨gv, 0, none⟩) (c.ps.length - 1) k1) ∧ w''.ownsRow B 52 2 (.slice (some ⟨gv, 0, none⟩) (c.ps.length - 1) k1) (c.ps.length - 1) (prC (del c.ps (lb (keysP c.ps) (nth a 0)))) ∧ Keep [gv] w' w'') := fun w' hb => woutp_any (H.out.later hb).hp hlt (by omega)
    clear hok hpm hc16
    go_enter Try.func63, Try.ntmps63
    go_wp2_with fail
    go_region_held3 (fun w' => w'.cell? ⟨g, o + 3, none⟩ = some (.slice (some ⟨gv, 0, none⟩) c.ps.length k1) ∧ w'.cell? y = some (.int .i64 (nth a 0))) (first | go_keep | exact hS) ((go_at_call 78; refine (HFD.out _ (Below.refl _ _).drew).mono ?_; rintro e w1 ⟨rfl, hb0⟩; have hb1 : Below w.heap.size w w1 := ⟨hb0.os, hb0.tape, hb0.output, hb0.size, hb0.block⟩; have hS : w1.cell? ⟨g, o + 3, none⟩ = some (.slice (some ⟨gv, 0, none⟩) c.ps.length k1) ∧ w1.cell? y = some (.int .i64 (nth a 0)) := ⟨cell_later hb1 (a := ⟨g, o + 3, none⟩) hgl h3, cell_later hb1 hyb hy⟩))
    have H1 : Hid (ColAt w1 B g o L c v (.slice (some ⟨gv, 0, none⟩) c.ps.length k1)) := H.out.later hb1
    have f3 := H1.out.cells.2.2.2
    have HB : Hid (Below w.heap.size w w1) := hb1
    clear hb1 h3 hy
    go_wp2_with fail
    refine (HW.out _ HB.out).mono ?_
    rintro e w2 ⟨rfl, ho1, hk1⟩
    have hgv : gv ≠ g := fun e => own_ne H.out.hp H.out.hg pair_coll (e ▸ rfl)
    have hg1 : w2.heap[g]? = some (.cells L.toArray 70 (0, 0)) := by
      rw [hk1.block _ (heap_lt H1.out.hg) (by simpa using fun e => hgv e.symm)]
      exact H1.out.hg
    have z1 : w2.cell? ⟨g, o + 3, none⟩ = some (.slice (some ⟨gv, 0, none⟩) c.ps.length k1) := ((cell_at hg1 _).trans (by simp)).trans H.out.h3
    have z3 : w2.frozen? ⟨g, o + 3, none⟩ = false := frozen_at hg1 _
    have HF : Hid (Did w B g o L v (.slice (some ⟨gv, 0, none⟩) c.ps.length k1) ((0, 0), { c with ps := del c.ps (lb (keysP c.ps) (nth a 0)) }) (.returned (.tuple #[.int .i64 0, .int .i64 0])) (w2.setCell ⟨g, o + 3, none⟩ (.slice (some ⟨gv, 0, none⟩) (c.ps.length - 1) k1))) := by
      have ho : w2.ownsRow B 52 2 (.slice (some ⟨gv, 0, none⟩) (c.ps.length - 1) k1) (del c.ps (lb (keysP c.ps) (nth a 0))).length (prC (del c.ps (lb (keysP c.ps) (nth a 0)))) := by
        rw [hDL]
        exact ho1
      exact Did.prs H.out ho ((Next.of_below HB.out _).trans ⟨hk1, fun b hb => Or.inl hb⟩) HK.out (0, 0)
    clear ho1 hk1 hg1 f3
    go_wp2_with fail
    go_ret2
    exact HF.out
theorem prC_setv {U : List (Int × Int)} {i : Nat} {k x : Int} (hi : i < U.length) (hk : (nthP U i).1 = k) : prC (U.set i (k, x)) = (prC U).set (i * 2 + 1) (.int .i64 x) := by
  rw [← prC_set]
  have := (prC_get U i hi).1
  rw [hk] at this
  rw [list_set_self this]
set_option maxHeartbeats 4000000 in
theorem putval_any {w : World} {B g o : Nat} {L : List Value} {c : Co} {v p va : Value} {a : List Int} (h : ColAt w B g o L c v p) (ha : Nl w va a) (h1 : a.length = 2) (hk : c.kd = 3) (hB : B ≤ w.heap.size) : Calls Try.prog 62 #[.pointer (some ⟨g, o, none⟩), va] w (Did w B g o L v p (dicV c 3 a)) := by
  have hok : CoOk (dicV c 3 a).2 := h.ok.dic hk 3 ha.w64
  have hr := h.ok.r3 hk
  have hpm := h.ok.pm
  have hc16 := h.ok.c16
  have hcells := h.cells
  have hf := h.frozen (o + 3)
  have hvn : c.ps.length ≤ 16 := by omega
  have hpn := Pn.of_own h.hp
  obtain ⟨a1, k1, rfl⟩ := own_slice h.hp
  obtain ⟨a2, c2, rfl⟩ := nl_slice ha
  obtain ⟨_, _, hca⟩ := nl_cells ha
  obtain ⟨y, rfl, hyb, hy⟩ := hca 0 (by omega)
  obtain ⟨y', hye, _, hy2⟩ := hca 1 (by omega)
  injection hye with hye
  subst hye
  rw [add_pos' y 1 (by decide)] at hy2
  have H : Hid (ColAt w B g o L c v (.slice a1 c.ps.length k1)) := h
  have hgl := heap_lt h.hg
  rw [h1]
  rw [add_zero'] at hy
  have HFD : Hid (∀ w' : World, Below w.heap.size w w' → Calls Try.prog 78 #[.slice a1 c.ps.length k1, .func (.func 79) #[] #[], .int .i64 (nth a 0)] w' fun e w'' => e = .returned (.tuple #[.int .i64 (lb (keysP c.ps) (nth a 0) : Int), .bool (thB (keysP c.ps) (nth a 0))]) ∧ Below w'.heap.size w' w'') := fun w' hb => findp_any _ (Pn.of_own (h.later hb).hp) hr (by omega)
  have hlb : lb (keysP c.ps) (nth a 0) ≤ c.ps.length := by
    have := lb_le (keysP c.ps) (nth a 0)
    rwa [keys_len] at this
  have HT : Hid (thB (keysP c.ps) (nth a 0) = true → lb (keysP c.ps) (nth a 0) < c.ps.length) := fun h => by
    have := (thB_yes h).1
    rwa [keys_len] at this
  have HT2 : Hid (thB (keysP c.ps) (nth a 0) = true → (nthP c.ps (lb (keysP c.ps) (nth a 0))).1 = nth a 0) := fun h => by
    have := (thB_yes h).2
    rwa [keys_nth] at this
  have e : dicV c 3 a = (if thB (keysP c.ps) (nth a 0) then ((0, 0), { c with ps := c.ps.set (lb (keysP c.ps) (nth a 0)) (nth a 0, nth a 1) }) else if c.cap ≤ (c.ps.length : Int) then ((0, 2), c) else ((0, 0), { c with ps := ins c.ps (lb (keysP c.ps) (nth a 0)) (nth a 0, nth a 1) })) := rfl
  rw [e] at hok ⊢
  have HWI : Hid (∀ w' : World, Below w.heap.size w w' → Calls Try.prog 80 #[.slice a1 c.ps.length k1, .int .i64 (lb (keysP c.ps) (nth a 0) : Int), .agg #[.int .i64 (nth a 0), .int .i64 (nth a 1)]] w' fun e w'' => ∃ g' cap', e = .returned (.slice (some ⟨g', 0, none⟩) (c.ps.length + 1) cap') ∧ w''.ownsRow B 52 2 (.slice (some ⟨g', 0, none⟩) (c.ps.length + 1) cap') (c.ps.length + 1) (prC (ins c.ps (lb (keysP c.ps) (nth a 0)) (nth a 0, nth a 1))) ∧ Next (Value.ownBlock (.slice a1 c.ps.length k1)).toList [g'] w' w'') := fun w' hb => withp_any (nth a 0, nth a 1) (h.later hb).hp hlb (by omega) (Nat.le_trans hB hb.size)
  clear e ha hca hpn hr hk h1 h
  obtain ⟨q, hq⟩ : ∃ q, thB (keysP c.ps) (nth a 0) = q := ⟨_, rfl⟩
  rw [hq] at HFD hok HT HT2 ⊢
  obtain ⟨h0, h1', h2, h3⟩ := hcells
  clear h0 h2 hq
  cases q with
  | true =>
    rw [if_pos rfl] at hok ⊢
    have hlt := HT.out rfl
    have hpos : 0 < c.ps.length := by omega
    cases a1 with
    | none =>
      exfalso
      rcases H.out.hp.2 with ⟨_, h0⟩ | ⟨_, _, _, e, _⟩
      · omega
      · cases e
    | some x1 =>
    obtain ⟨gv, rfl⟩ := own_at0 H.out.hp
    have HK : Hid (CoOk { c with ps := c.ps.set (lb (keysP c.ps) (nth a 0)) (nth a 0, nth a 1) }) := hok
    have hkey := HT2.out rfl
    have hcell := (prC_get c.ps _ hlt).2
    clear hok hpm hc16 HWI
    go_enter Try.func62, Try.ntmps62
    go_wp2_with fail
    go_region_held3 (fun w' => w'.cell? ⟨g, o + 3, none⟩ = some (.slice (some ⟨gv, 0, none⟩) c.ps.length k1) ∧ w'.cell? y = some (.int .i64 (nth a 0))) (first | go_keep | exact hS) ((go_at_call 78; refine (HFD.out _ (Below.refl _ _).drew).mono ?_; rintro e w1 ⟨rfl, hb0⟩; have hb1 : Below w.heap.size w w1 := ⟨hb0.os, hb0.tape, hb0.output, hb0.size, hb0.block⟩; have hS : w1.cell? ⟨g, o + 3, none⟩ = some (.slice (some ⟨gv, 0, none⟩) c.ps.length k1) ∧ w1.cell? y = some (.int .i64 (nth a 0)) := ⟨cell_later hb1 (a := ⟨g, o + 3, none⟩) hgl h3, cell_later hb1 hyb hy⟩))
    have H1 : Hid (ColAt w1 B g o L c v (.slice (some ⟨gv, 0, none⟩) c.ps.length k1)) := H.out.later hb1
    have f3 := H1.out.cells.2.2.2
    have f4 := own_cells H1.out.hp _ _ hcell
    have f5 : w1.frozen? ⟨gv, lb (keysP c.ps) (nth a 0) * 2 + 1, none⟩ = false := (own_some H1.out.hp _ (by omega)).2
    have y2 : w1.cell? ⟨y.block, y.off + 1, none⟩ = some (.int .i64 (nth a 1)) := cell_later hb1 (a := ⟨y.block, y.off + 1, none⟩) hyb hy2
    have HB : Hid (Below w.heap.size w w1) := hb1
    have HF : Hid (∀ n, Did w B g o L v (.slice (some ⟨gv, 0, none⟩) c.ps.length k1) ((0, 0), { c with ps := c.ps.set (lb (keysP c.ps) (nth a 0)) (nth a 0, nth a 1) }) (.returned (.tuple #[.int .i64 0, .int .i64 0])) ((w1.setCell ⟨gv, lb (keysP c.ps) (nth a 0) * 2 + 1, none⟩ (.int .i64 (nth a 1))).drewN n)) := fun n => by
      have ho : (w1.setCell ⟨gv, lb (keysP c.ps) (nth a 0) * 2 + 1, none⟩ (.int .i64 (nth a 1))).ownsRow B 52 2 (.slice (some ⟨gv, 0, none⟩) c.ps.length k1) (c.ps.set (lb (keysP c.ps) (nth a 0)) (nth a 0, nth a 1)).length (prC (c.ps.set (lb (keysP c.ps) (nth a 0)) (nth a 0, nth a 1))) := by
        rw [List.length_set, prC_setv hlt hkey]
        exact own_set2 H1.out.hp _ _
      exact Did.prsIn H.out (w1 := (w1.setCell ⟨gv, lb (keysP c.ps) (nth a 0) * 2 + 1, none⟩ (.int .i64 (nth a 1))).drewN n) ho (((Keep.of_below HB.out _).trans (Keep.setCell (Keep.refl _ _) _ _ (Or.inl (by simp [Value.ownBlock]))) (fun b hb => Or.inl hb)).drewN n) HK.out (0, 0)
    clear hb1 h3 hy hy2 H1 hcell
    generalize lb (keysP c.ps) (nth a 0) = i at *
    go_wp2_with fail
    go_region
    go_wp2_with fail
    go_ret2
    exact HF.out 1
  | false =>
    rw [if_neg (by decide)] at hok ⊢
    by_cases hfull : c.cap ≤ (c.ps.length : Int)
    · rw [if_pos hfull]
      have he : c.cap = (c.ps.length : Int) := by omega
      rw [he] at h1'
      have he' : Hid (c.cap = (c.ps.length : Int)) := he
      clear he hfull hpm hc16 hok HWI
      go_enter Try.func62, Try.ntmps62
      go_wp2_with fail
      go_region_held3 (fun w' => w'.cell? ⟨g, o + 3, none⟩ = some (.slice a1 c.ps.length k1) ∧ w'.cell? y = some (.int .i64 (nth a 0))) (first | go_keep | exact hS) ((go_at_call 78; refine (HFD.out _ (Below.refl _ _).drew).mono ?_; rintro e w1 ⟨rfl, hb0⟩; have hb1 : Below w.heap.size w w1 := ⟨hb0.os, hb0.tape, hb0.output, hb0.size, hb0.block⟩; have hS : w1.cell? ⟨g, o + 3, none⟩ = some (.slice a1 c.ps.length k1) ∧ w1.cell? y = some (.int .i64 (nth a 0)) := ⟨cell_later hb1 (a := ⟨g, o + 3, none⟩) hgl h3, cell_later hb1 hyb hy⟩))
      have f1 : w1.cell? ⟨g, o + 1, none⟩ = some (.int .i64 (c.ps.length : Int)) := cell_later hb1 (a := ⟨g, o + 1, none⟩) hgl h1'
      have f3 : w1.cell? ⟨g, o + 3, none⟩ = some (.slice a1 c.ps.length k1) := cell_later hb1 (a := ⟨g, o + 3, none⟩) hgl h3
      have HB : Hid (Below w.heap.size w w1) := hb1
      clear hb1 h3 h1' hy
      go_wp2_with fail
      go_quiet (fail)
      go_wp2_with fail
      go_ret2
      exact Did.same H.out (below_drawn HB.out _) (0, 2)
    · rw [if_neg hfull] at hok ⊢
      have hd : ((c.ps.length : Int) == c.cap) = false := beq_eq_false_iff_ne.2 (by omega)
      have HK : Hid (CoOk { c with ps := ins c.ps (lb (keysP c.ps) (nth a 0)) (nth a 0, nth a 1) }) := hok
      have hIL := ins_len c.ps (lb (keysP c.ps) (nth a 0)) (nth a 0, nth a 1) hlb
      clear hok hfull hpm hc16
      go_enter Try.func62, Try.ntmps62
      go_wp2_with fail
      go_region_held3 (fun w' => w'.cell? ⟨g, o + 3, none⟩ = some (.slice a1 c.ps.length k1) ∧ w'.cell? y = some (.int .i64 (nth a 0))) (first | go_keep | exact hS) ((go_at_call 78; refine (HFD.out _ (Below.refl _ _).drew).mono ?_; rintro e w1 ⟨rfl, hb0⟩; have hb1 : Below w.heap.size w w1 := ⟨hb0.os, hb0.tape, hb0.output, hb0.size, hb0.block⟩; have hS : w1.cell? ⟨g, o + 3, none⟩ = some (.slice a1 c.ps.length k1) ∧ w1.cell? y = some (.int .i64 (nth a 0)) := ⟨cell_later hb1 (a := ⟨g, o + 3, none⟩) hgl h3, cell_later hb1 hyb hy⟩))
      obtain ⟨f0, f1, f2, f3⟩ := (H.out.later hb1).cells
      have y1 : w1.cell? y = some (.int .i64 (nth a 0)) := cell_later hb1 hyb hy
      have y2 : w1.cell? ⟨y.block, y.off + 1, none⟩ = some (.int .i64 (nth a 1)) := cell_later hb1 (a := ⟨y.block, y.off + 1, none⟩) hyb hy2
      have HB : Hid (Below w.heap.size w w1) := hb1
      clear hb1 h3 hy hy2 f0 f2 h1'
      go_wp2_with fail
      go_quiet (fail)
      go_wp2_with fail
      obtain ⟨wz, hwz⟩ : ∃ wz, wz = w1.drewN nq := ⟨_, rfl⟩
      rw [← hwz]
      have z1 : wz.cell? ⟨g, o + 3, none⟩ = some (.slice a1 c.ps.length k1) := by rw [hwz]; exact f3
      have z2 : wz.cell? y = some (.int .i64 (nth a 0)) := by rw [hwz]; exact y1
      have z3 : wz.cell? ⟨y.block, y.off + 1, none⟩ = some (.int .i64 (nth a 1)) := by rw [hwz]; exact y2
      have HZ : Hid (Below w.heap.size w wz) := by rw [hwz]; exact below_drawn HB.out _
      clear hwz f1 f3 y1 y2 HB
      go_region_with ((go_at_call 80; refine (HWI.out _ (below_drawn HZ.out 1)).mono ?_; rintro e w2 ⟨g2, k2, rfl, ho2, hn2⟩; have hN : Next (Value.ownBlock (.slice a1 c.ps.length k1)).toList [g2] w w2 := (Next.of_below (below_drawn HZ.out 1) _).trans hn2; have hg2 : w2.heap[g]? = some (.cells L.toArray 70 (0, 0)) := (hN.1.block _ hgl (fun e => own_ne H.out.hp H.out.hg pair_coll (by simpa using e))).trans H.out.hg; have s1 : w2.cell? ⟨g, o + 3, none⟩ = some (.slice a1 c.ps.length k1) := ((cell_at hg2 _).trans (by simp)).trans H.out.h3; have s2 : w2.frozen? ⟨g, o + 3, none⟩ = false := frozen_at hg2 _))
      all_goals
        have HF : Hid (Did w B g o L v (.slice a1 c.ps.length k1) ((0, 0), { c with ps := ins c.ps (lb (keysP c.ps) (nth a 0)) (nth a 0, nth a 1) }) (.returned (.tuple #[.int .i64 0, .int .i64 0])) (w2.setCell ⟨g, o + 3, none⟩ (.slice (some ⟨g2, 0, none⟩) (c.ps.length + 1) k2))) := by
          have ho : w2.ownsRow B 52 2 (.slice (some ⟨g2, 0, none⟩) (c.ps.length + 1) k2) (ins c.ps (lb (keysP c.ps) (nth a 0)) (nth a 0, nth a 1)).length (prC (ins c.ps (lb (keysP c.ps) (nth a 0)) (nth a 0, nth a 1))) := by
            rw [hIL]
            exact ho2
          exact Did.prs H.out ho hN HK.out (0, 0)
        clear ho2 hn2 hN hg2 s1 s2
        go_wp2_with fail
        go_ret2
        exact HF.out
end Go.Proofs.Ytgbmnngmfcneaaa.Pl
