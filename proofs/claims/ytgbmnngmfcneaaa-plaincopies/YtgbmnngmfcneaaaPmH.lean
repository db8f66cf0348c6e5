/- A dict's calls: the document's. -/
import Derived.Test.YtgbmnngmfcneaaaPmG
import Derived.Test.YtgbmnngmfcneaaaPlG
namespace Go.Proofs.Ytgbmnngmfcneaaa.Pl
open Go.ChangeShapes Go.WideShapes Go.ChangeAt Go.RowKit
attribute [local go_sem ↓] Go.wp_at_zero Go.wp_at_succ

theorem low_step {l : List Int} {x : Int} {j : Nat} (h : ∀ i, i < j → nth l i < x) (hx : nth l j < x) : ∀ i, i < j + 1 → nth l i < x := fun i hi => by
  by_cases e : i = j
  · rw [e]; exact hx
  · exact h i (by omega)
theorem le_mega {j n : Nat} (h : j ≤ n) (h16 : n ≤ 16) : 0 + j ≤ 1048576 := by omega
theorem le_mega2 {j n m : Nat} (h : j ≤ n) (h16 : n ≤ 16) (hm : m ≤ 16) : j + m ≤ 1048576 := by omega
theorem le_mega3 {j n m : Nat} (h : j ≤ n) (h16 : n ≤ 16) (hm : m ≤ 16) : j + 1 + m ≤ 1048576 := by omega
theorem sub16 {n j : Nat} (h16 : n ≤ 16) : n - j ≤ 16 := by omega
theorem last_eq {j n k : Nat} (h : j < n) (hc : n ≤ k) (hk : k = j + 1) : n = j + 1 := by omega
theorem end_eq {j n k : Nat} (h : j ≤ n) (hc : n ≤ k) (hk : k = j) : n = j := by omega
theorem del_n0 {α : Type} {l : List α} {j : Nat} (hlt : j < l.length) (hni : l.length = j + 1) : (del l j).length = j + 0 := by rw [del_len _ _ hlt]; omega
theorem del_n1 {α : Type} {l : List α} {j : Nat} (hlt : j < l.length) : (del l j).length = j + (l.length - (j + 1)) := by rw [del_len _ _ hlt]; omega
theorem ins_n0 {α : Type} {l : List α} {j : Nat} (x : α) (hj : j ≤ l.length) (hni : l.length = j) : (ins l j x).length = j + 1 + 0 := by rw [ins_len _ _ _ hj]; omega
theorem ins_n1 {α : Type} {l : List α} {j : Nat} (x : α) (hj : j ≤ l.length) : (ins l j x).length = j + 1 + (l.length - j) := by rw [ins_len _ _ _ hj]; omega
theorem two_gt {n : Nat} (h : n = 2) : (1 : Int) < (n : Int) := by omega
theorem one_pair (x y : Int) : ∀ u ∈ ([.int .i64 x, .int .i64 y] : List Value), u.oneCell' = true := by
  intro u hu
  simp only [List.mem_cons, List.not_mem_nil, or_false] at hu
  rcases hu with rfl | rfl <;> rfl
theorem ins_max {j n : Nat} (h : j ≤ n) (h16 : n ≤ 16) : j + 1 ≤ maxLen := by unfold maxLen; omega
theorem ins_byt {j n : Nat} (h : j ≤ n) (h16 : n ≤ 16) : ((j + 1) + (j + 1) / 4 + 192) * 16 ≤ 281474976710656 := by omega
theorem al_size {n : Nat} {w : World} {o : Obj} (h : n ≤ w.heap.size) : n ≤ ((w.alloc o).drew).heap.size := by simp; omega
theorem wz16 {j n : Nat} (h : j < n) (h16 : n ≤ 16) : wrap64 ((j : Int) + 1) = (j : Int) + 1 := by unfold wrap64; omega
theorem ms16 {j n : Nat} (h : j < n) (h16 : n ≤ 16) : n - (wrap64 ((j : Int) + 1)).toNat < n - j := by rw [wz16 h h16]; omega
theorem ms16b {j n : Nat} (h : j < n) : n - ((j : Int) + 1).toNat < n - j := by omega
theorem ar3_cases {call : Int} {n : Nat} (h : ar3 call = (n : Int)) : (n = 0 ∧ call = 5) ∨ (n = 1 ∧ call = 2) ∨ (n = 2 ∧ call = 3) ∨ (n = 1 ∧ call = 4) := by
  unfold ar3 at h
  repeat' split at h
  all_goals omega
set_option maxRecDepth 100000 in
set_option maxHeartbeats 4000000 in
theorem dicts_any {w : World} {B g o : Nat} {L : List Value} {c : Co} {v p va : Value} {a : List Int} (call : Int) (h : ShAt w B g o L c v p) (ha : Nl w va a) (h1 : ar3 call = (a.length : Int)) (hk : c.kd = 3) (hB : B ≤ w.heap.size) : Calls Try.prog 34 #[.pointer (some ⟨g, o, none⟩), .int .i64 c.cap, .int .i64 call, va] w (Dod w B g o L v p (dicV c call a)) := by
  have hok : CoOk (dicV c call a).2 := h.ok.dic hk call ha.w64
  obtain ⟨h0, h2, h3⟩ := h.cells
  have hpm := h.ok.pm
  have hc16 := h.ok.c16
  have hvn : c.ps.length ≤ 16 := by omega
  obtain ⟨a1, k1, rfl⟩ := own_slice h.hp
  obtain ⟨a2, c2, rfl⟩ := nl_slice ha
  obtain ⟨_, hal, hca⟩ := nl_cells ha
  have H : Hid (ShAt w B g o L c v (.slice a1 c.ps.length k1)) := h
  have hgl := heap_lt h.hg
  obtain ⟨i0, hi, hz0, hz1, hz2⟩ := info_parts info_pair
  have hcapk : c.ps.length ≤ k1 := by
    rcases h.hp.2 with ⟨e, _⟩ | ⟨g2, cp, cur, e, _, _, hc1, _⟩
    · injection e with _ e1 e2; omega
    · injection e with _ _ e2; omega
  have hnone : a1 = none → k1 = 0 := fun e => by
    subst e
    rcases h.hp.2 with ⟨e, _⟩ | ⟨g2, cp, cur, e, _⟩
    · injection e
    · cases e
  have HGV : Hid (∀ x, a1 = some x → ∃ gv, x = ⟨gv, 0, none⟩) := fun x e => by subst e; exact own_at0 h.hp
  have HSG : Hid (∀ w', Below w.heap.size w w' → ∀ i, i ≤ c.ps.length → Sg w' 2 (.slice a1 i k1) i (prC (c.ps.take i))) := fun w' hb i hi => by
    have := Sg.head (h.later hb).hp prC_one hi
    rwa [prC_take] at this
  have HST : Hid (∀ w', Below w.heap.size w w' → ∀ i gv, a1 = some ⟨gv, 0, none⟩ → Sg w' 2 (.slice (some ⟨gv, i * 2, none⟩) (c.ps.length - i) (k1 - i)) (c.ps.length - i) (prC (c.ps.drop i))) := fun w' hb i gv e => by
    subst e
    have := Sg.tail (h.later hb).hp prC_one (i := i)
    rw [prC_drop] at this
    exact this
  have HCK : Hid (∀ w', Below w.heap.size w w' → ∀ i, i < c.ps.length → ∃ gv, a1 = some ⟨gv, 0, none⟩ ∧ w'.cell? ⟨gv, i * 2, none⟩ = some (.int .i64 (nth (keysP c.ps) i)) ∧ w'.cell? ⟨gv, i * 2 + 1, none⟩ = some (.int .i64 (nthP c.ps i).2) ∧ w'.frozen? ⟨gv, i * 2 + 1, none⟩ = false ∧ gv < w.heap.size) := fun w' hb i hi => by
    cases a1 with
    | none => have := hnone rfl; omega
    | some x =>
      obtain ⟨gv, rfl⟩ := own_at0 h.hp
      have ho := (h.later hb).hp
      refine ⟨gv, rfl, ?_, own_cells ho _ _ (prC_get c.ps i hi).2, (own_some ho _ (by omega)).2, (own_block h.hp gv rfl).2⟩
      rw [keys_nth]
      exact own_cells ho _ _ (prC_get c.ps i hi).1
  have HNO : Hid (a1 = none → k1 = 0) := hnone
  clear h h0 h2 ha hk hnone
  have hkl := keys_len c.ps
  have HLT : Hid (lb (keysP c.ps) (nth a 0) ≤ c.ps.length) := by
    have := lb_le (keysP c.ps) (nth a 0)
    rwa [hkl] at this
  by_cases e5 : call = 5
  · subst e5
    go_enter Try.func34, Try.ntmps34
    go_wp2_with fail
    go_ret2
    exact Dod.same H.out (Below.refl _ _) ((c.ps.length : Int), 0)
  · have d5 : (call == 5) = false := beq_eq_false_iff_ne.2 e5
    have hq : (a.length = 1 ∧ call = 2) ∨ (a.length = 2 ∧ call = 3) ∨ (a.length = 1 ∧ call = 4) := by
      rcases ar3_cases h1 with ⟨_, h⟩ | h | h | h
      · exact absurd h e5
      · exact Or.inl h
      · exact Or.inr (Or.inl h)
      · exact Or.inr (Or.inr h)
    obtain ⟨y, rfl, hyb, hy⟩ := hca 0 (by omega)
    have hposI : (0 : Int) < (a.length : Int) := by omega
    have HY2 : Hid (∀ w', Below w.heap.size w w' → a.length = 2 → w'.cell? ⟨y.block, y.off + 1, none⟩ = some (.int .i64 (nth a 1))) := fun w' hb h2 => by
      obtain ⟨y', hye, _, hy2⟩ := hca 1 (by omega)
      injection hye with hye
      subst hye
      rw [add_pos' y 1 (by decide)] at hy2
      exact cell_later hb (a := ⟨y.block, y.off + 1, none⟩) hyb hy2
    have HOK : Hid (CoOk (dicV c call a).2) := hok
    rw [add_zero'] at hy
    have HQ : Hid ((a.length = 1 ∧ call = 2) ∨ (a.length = 2 ∧ call = 3) ∨ (a.length = 1 ∧ call = 4)) := hq
    have HI : Hid (Try.prog.info? 52 = some i0 ∧ i0.zero = some (.agg #[.int .i64 0, .int .i64 0]) ∧ i0.size = 2 ∧ i0.bytes = 16) := ⟨hi, hz0, hz1, hz2⟩
    have HCP : Hid (c.ps.length ≤ k1) := hcapk
    have HPM : Hid ((c.ps.length : Int) ≤ c.cap) := hpm
    have HVN : Hid (c.ps.length ≤ 16) := hvn
    clear hca h1 hok e5 hq hi hz0 hz1 hz2 hcapk hpm hc16 hvn hal
    go_enter Try.func34, Try.ntmps34
    go_wp2_with fail
    go_loopw [10] (fun kv wr => ∃ j : Nat, j ≤ c.ps.length ∧ kv = .int .i64 (j : Int) ∧ Hid (∀ i, i < j → nth (keysP c.ps) i < nth a 0) ∧ Below w.heap.size w wr) (fun kv _ => c.ps.length - (intOf kv).toNat)
    case atStart => exact ⟨0, Nat.zero_le _, rfl, fun i hi => absurd hi (by omega), Below.refl _ _⟩
    obtain ⟨j, hj, rfl, HLW, hbel⟩ := hrel
    have HB : Hid (Below w.heap.size w wr) := hbel
    have s2 : wr.cell? ⟨g, o + 2, none⟩ = some (.slice a1 c.ps.length k1) := cell_later hbel (a := ⟨g, o + 2, none⟩) hgl h3
    have sy : wr.cell? y = some (.int .i64 (nth a 0)) := cell_later hbel hyb hy
    clear hbel
    by_cases hlt : j < c.ps.length
    · obtain ⟨gv0, hgv0, sx0, -, -, -⟩ := HCK.out wr HB.out j hlt
      obtain ⟨x, hx0⟩ : ∃ x : Addr, x = ⟨gv0, 0, none⟩ := ⟨_, rfl⟩
      have sx : wr.cell? (x.add (j * 2)) = some (.int .i64 (nth (keysP c.ps) j)) := by rw [hx0, add_at, Nat.zero_add]; exact sx0
      rw [← hx0] at hgv0
      subst hgv0
      have HX0 : Hid (x = ⟨gv0, 0, none⟩) := hx0
      clear sx0 hx0
      have hld : decide ((j : Int) < (c.ps.length : Int)) = true := by simpa using hlt
      have hld2 : decide (j < c.ps.length) = true := by simpa using hlt
      have hw1 : wrap64 ((j : Int) + 1) = (j : Int) + 1 := wz16 hlt HVN.out
      have HM : Hid (c.ps.length - (j + 1) < c.ps.length - j) := Pc.mz _ _ hlt
      by_cases hxk : nth (keysP c.ps) j < nth a 0
      · have hxd : decide (nth (keysP c.ps) j < nth a 0) = true := by simpa using hxk
        have HLW2 : Hid (∀ i, i < j + 1 → nth (keysP c.ps) i < nth a 0) := low_step HLW.out hxk
        clear hxk HLW hkl
        go_wp2_with fail
        go_quiet (fail)
        have HB2 : Hid (Below w.heap.size w (wr.drewN nq)) := below_drawn HB.out _
        go_wp2_with fail
        go_roundw
        case rel => exact ⟨j + 1, hlt, by go_num, HLW2.out, HB2.out⟩
        case measure =>
          try rw [hw1]
          exact ms16b hlt
      · have hxd : decide (nth (keysP c.ps) j < nth a 0) = false := by simpa using hxk
        have HLB : Hid (lb (keysP c.ps) (nth a 0) = j) := lb_isP hj HLW.out (fun _ => Int.not_lt.1 hxk)
        clear HM HLW
        go_wp2_with fail
        go_quiet (fail)
        go_wp2_with fail
        obtain ⟨wz, hwz⟩ : ∃ wz, wz = wr.drewN nq := ⟨_, rfl⟩
        rw [← hwz]
        have HBZ : Hid (Below w.heap.size w wz) := by rw [hwz]; exact below_drawn HB.out _
        have z2 : wz.cell? ⟨g, o + 2, none⟩ = some (.slice (some x) c.ps.length k1) := cell_later HBZ.out (a := ⟨g, o + 2, none⟩) hgl h3
        have zy : wz.cell? y = some (.int .i64 (nth a 0)) := cell_later HBZ.out hyb hy
        have zx : wz.cell? (x.add (j * 2)) = some (.int .i64 (nth (keysP c.ps) j)) := by rw [hwz]; exact sx
        clear hwz s2 sy sx HB
        by_cases hxe : nth (keysP c.ps) j = nth a 0
        · have hxd2 : (nth (keysP c.ps) j == nth a 0) = true := by simpa using hxe
          have HTH : Hid (thB (keysP c.ps) (nth a 0) = true) := by unfold thB; rw [Hid, HLB.out]; simp [hkl, hlt, hxe]
          have HKE : Hid ((nthP c.ps j).1 = nth a 0) := by rw [Hid, ← keys_nth]; exact hxe
          clear hxd hxk hxe
          go_quiet (fail)
          obtain ⟨wy, hwy⟩ : ∃ wy, wy = wz.drewN nq := ⟨_, rfl⟩
          rw [← hwy]
          have HBY : Hid (Below w.heap.size w wy) := by rw [hwy]; exact below_drawn HBZ.out _
          have y2 : wy.cell? ⟨g, o + 2, none⟩ = some (.slice (some x) c.ps.length k1) := cell_later HBY.out (a := ⟨g, o + 2, none⟩) hgl h3
          have yy : wy.cell? y = some (.int .i64 (nth a 0)) := cell_later HBY.out hyb hy
          clear hwy z2 zy HBZ zx
          clear wz
          have hjn : j ≤ c.ps.length := hj
          have hwy : w.heap.size ≤ wy.heap.size := HBY.out.size
          have HSH : Hid (Sg wy 2 (.slice (some x) j k1) j (prC (c.ps.take j))) := HSG.out wy HBY.out j hj
          have hjk : j ≤ k1 := Nat.le_trans hj HCP.out
          obtain rfl := HX0.out
          obtain ⟨gv, rfl⟩ : ∃ gv, gv = gv0 := ⟨_, rfl⟩
          rcases HQ.out with ⟨hn, rfl⟩ | ⟨hn, rfl⟩ | ⟨hn, rfl⟩
          · have HV : Hid (dicV c 2 a = (((nthP c.ps j).2, 0), c)) := by
              unfold dicV
              rw [Hid, if_neg (by decide), if_pos rfl, HTH.out, HLB.out]
              rfl
            clear HOK
            go_wp2_with (at_builtin; refine wpList_append_sg _ rfl _ _ rfl Try.underlying48 HI.out.1 HI.out.2.1 HI.out.2.2.1 HI.out.2.2.2 rfl (by decide) (by decide) wy.heap.size (.slice none 0 0) 0 [] rfl (World.ownsRow_nil _ _ _ _) _ _ _ rfl HSH.out ?c1_1 ?c2_1 ?_)
            case c1_1 => first | exact le_mega hjn HVN.out | simpa using le_mega hjn HVN.out
            try (case c2_1 => exact Nat.le_refl _)
            intro v1 w1 hown1 hgr1
            obtain ⟨b1, d1, rfl⟩ := own_slice hown1
            have hb01 : Below wy.heap.size wy w1 := (Below.refl _ _).grown hgr1 (Nat.le_refl _) (fun b hb => by cases hb)
            have hb1 : Below w.heap.size w w1 := below_then HBY.out hb01
            have s1 : w1.cell? ⟨g, o + 2, none⟩ = some (.slice (some ⟨gv, 0, none⟩) c.ps.length k1) := cell_later hb1 (a := ⟨g, o + 2, none⟩) hgl h3
            have s2 : w1.frozen? ⟨g, o + 2, none⟩ = false := frozen_at ((hb1.block _ hgl).trans H.out.hg) _
            have sy : w1.cell? y = some (.int .i64 (nth a 0)) := cell_later hb1 hyb hy
            have HO1 : Hid (w1.ownsRow w.heap.size 52 2 (.slice b1 j d1) j (prC (c.ps.take j))) := by
              have := own_base hown1 hwy
              simpa [Hid] using this
            have HB1 : Hid (Below w.heap.size w w1) := hb1
            have hw1s : w.heap.size ≤ w1.heap.size := hb1.size
            clear hown1 hgr1 hb1 hb01 y2 yy
            obtain ⟨gv', hgv', -, tv, -, -⟩ := HCK.out w1 HB1.out j hlt
            injection hgv' with hgv'
            injection hgv' with hgv'
            subst hgv'
            go_wp2_with fail
            go_ret2
            rw [HV.out]
            exact Dod.same H.out HB1.out ((nthP c.ps j).2, 0)
          · have HV : Hid (dicV c 3 a = ((0, 0), { c with ps := c.ps.set j (nth a 0, nth a 1) })) := by
              unfold dicV
              rw [Hid, if_neg (by decide), if_neg (by decide), if_pos rfl, HTH.out, HLB.out]
              rfl
            have HK : Hid (CoOk { c with ps := c.ps.set j (nth a 0, nth a 1) }) := by
              have := HOK.out
              rw [HV.out] at this
              exact this
            clear HOK
            go_wp2_with (at_builtin; refine wpList_append_sg _ rfl _ _ rfl Try.underlying48 HI.out.1 HI.out.2.1 HI.out.2.2.1 HI.out.2.2.2 rfl (by decide) (by decide) wy.heap.size (.slice none 0 0) 0 [] rfl (World.ownsRow_nil _ _ _ _) _ _ _ rfl HSH.out ?c1_2 ?c2_2 ?_)
            case c1_2 => first | exact le_mega hjn HVN.out | simpa using le_mega hjn HVN.out
            try (case c2_2 => exact Nat.le_refl _)
            intro v1 w1 hown1 hgr1
            obtain ⟨b1, d1, rfl⟩ := own_slice hown1
            have hb01 : Below wy.heap.size wy w1 := (Below.refl _ _).grown hgr1 (Nat.le_refl _) (fun b hb => by cases hb)
            have hb1 : Below w.heap.size w w1 := below_then HBY.out hb01
            have s1 : w1.cell? ⟨g, o + 2, none⟩ = some (.slice (some ⟨gv, 0, none⟩) c.ps.length k1) := cell_later hb1 (a := ⟨g, o + 2, none⟩) hgl h3
            have s2 : w1.frozen? ⟨g, o + 2, none⟩ = false := frozen_at ((hb1.block _ hgl).trans H.out.hg) _
            have sy : w1.cell? y = some (.int .i64 (nth a 0)) := cell_later hb1 hyb hy
            have HO1 : Hid (w1.ownsRow w.heap.size 52 2 (.slice b1 j d1) j (prC (c.ps.take j))) := by
              have := own_base hown1 hwy
              simpa [Hid] using this
            have HB1 : Hid (Below w.heap.size w w1) := hb1
            have hw1s : w.heap.size ≤ w1.heap.size := hb1.size
            clear hown1 hgr1 hb1 hb01 y2 yy
            obtain ⟨gv', hgv', -, tv, tf, -⟩ := HCK.out w1 HB1.out j hlt
            injection hgv' with hgv'
            injection hgv' with hgv'
            subst hgv'
            have ty : w1.cell? ⟨y.block, y.off + 1, none⟩ = some (.int .i64 (nth a 1)) := HY2.out w1 HB1.out hn
            have hal1 : (1 : Int) < (a.length : Int) := two_gt hn
            have HF : Hid (∀ n, Dod w B g o L v (.slice (some ⟨gv, 0, none⟩) c.ps.length k1) ((0, 0), { c with ps := c.ps.set j (nth a 0, nth a 1) }) (.returned (.tuple #[.int .i64 0, .int .i64 0])) ((w1.setCell ⟨gv, j * 2 + 1, none⟩ (.int .i64 (nth a 1))).drewN n)) := fun n => by
              have ho : (w1.setCell ⟨gv, j * 2 + 1, none⟩ (.int .i64 (nth a 1))).ownsRow B 52 2 (.slice (some ⟨gv, 0, none⟩) c.ps.length k1) (c.ps.set j (nth a 0, nth a 1)).length (prC (c.ps.set j (nth a 0, nth a 1))) := by
                rw [List.length_set, prC_setv hlt HKE.out]
                exact own_set2 (H.out.later HB1.out).hp _ _
              exact Dod.prsIn H.out (w1 := (w1.setCell ⟨gv, j * 2 + 1, none⟩ (.int .i64 (nth a 1))).drewN n) ho (((Keep.of_below HB1.out _).trans (Keep.setCell (Keep.refl _ _) _ _ (Or.inl (by simp [Value.ownBlock]))) (fun b hb => Or.inl hb)).drewN n) HK.out (0, 0)
            clear hn
            go_wp2_with fail
            go_region
            go_wp2_with fail
            go_ret2
            rw [HV.out]
            exact HF.out 1
          · have HV : Hid (dicV c 4 a = ((0, 0), { c with ps := del c.ps j })) := by
              unfold dicV
              rw [Hid, if_neg (by decide), if_neg (by decide), if_neg (by decide), HTH.out, HLB.out]
              rfl
            have HK : Hid (CoOk { c with ps := del c.ps j }) := by
              have := HOK.out
              rw [HV.out] at this
              exact this
            clear HOK
            go_wp2_with (at_builtin; refine wpList_append_sg _ rfl _ _ rfl Try.underlying48 HI.out.1 HI.out.2.1 HI.out.2.2.1 HI.out.2.2.2 rfl (by decide) (by decide) wy.heap.size (.slice none 0 0) 0 [] rfl (World.ownsRow_nil _ _ _ _) _ _ _ rfl HSH.out ?c1_3 ?c2_3 ?_)
            case c1_3 => first | exact le_mega hjn HVN.out | simpa using le_mega hjn HVN.out
            try (case c2_3 => exact Nat.le_refl _)
            intro v1 w1 hown1 hgr1
            obtain ⟨b1, d1, rfl⟩ := own_slice hown1
            have hb01 : Below wy.heap.size wy w1 := (Below.refl _ _).grown hgr1 (Nat.le_refl _) (fun b hb => by cases hb)
            have hb1 : Below w.heap.size w w1 := below_then HBY.out hb01
            have s1 : w1.cell? ⟨g, o + 2, none⟩ = some (.slice (some ⟨gv, 0, none⟩) c.ps.length k1) := cell_later hb1 (a := ⟨g, o + 2, none⟩) hgl h3
            have s2 : w1.frozen? ⟨g, o + 2, none⟩ = false := frozen_at ((hb1.block _ hgl).trans H.out.hg) _
            have sy : w1.cell? y = some (.int .i64 (nth a 0)) := cell_later hb1 hyb hy
            have HO1 : Hid (w1.ownsRow w.heap.size 52 2 (.slice b1 j d1) j (prC (c.ps.take j))) := by
              have := own_base hown1 hwy
              simpa [Hid] using this
            have HB1 : Hid (Below w.heap.size w w1) := hb1
            have hw1s : w.heap.size ≤ w1.heap.size := hb1.size
            clear hown1 hgr1 hb1 hb01 y2 yy
            by_cases hki : k1 = j + 1
            · have hni : c.ps.length = j + 1 := last_eq hlt HCP.out hki
              have HSE : Hid (Sg w1 2 (.slice (some ⟨gv, 0, none⟩) 0 0) 0 []) := Sg.empty _ _ _
              have HL : Hid ((del c.ps j).length = j + 0 ∧ prC (del c.ps j) = prC (c.ps.take j) ++ []) := ⟨del_n0 hlt hni, by unfold del; rw [← hni, List.drop_length, List.append_nil, List.append_nil]⟩
              have u2 : w1.cell? ⟨g, o + 2, none⟩ = some (.slice (some ⟨gv, 0, none⟩) (j + 1) (j + 1)) := by rw [s1, hni, hki]
              clear s1 hni hki
              go_wp2_with (at_builtin; refine wpList_append_sg _ rfl _ _ rfl Try.underlying48 HI.out.1 HI.out.2.1 HI.out.2.2.1 HI.out.2.2.2 rfl (by decide) (by decide) w.heap.size _ _ _ rfl HO1.out _ _ _ rfl HSE.out ?c1_4 ?c2_4 ?_)
              case c1_4 => exact le_mega2 hjn HVN.out (by first | exact Nat.zero_le _ | exact sub16 HVN.out)
              try (case c2_4 => exact hw1s)
              intro v3 w3 hown3 hgr3
              obtain ⟨b3, d3, rfl⟩ := own_slice hown3
              have hb3 : Below w.heap.size w w3 := bel_grown (base := 0) HB1.out HO1.out hgr3 rfl
              have t1 : w3.cell? ⟨g, o + 2, none⟩ = some (.slice (some ⟨gv, 0, none⟩) c.ps.length k1) := cell_later hb3 (a := ⟨g, o + 2, none⟩) hgl h3
              have t2 : w3.frozen? ⟨g, o + 2, none⟩ = false := frozen_at ((hb3.block _ hgl).trans H.out.hg) _
              have HF := Dod.freshP H.out hB hb3 (by rw [HL.out.1, HL.out.2]; first | exact hown3 | simpa using hown3) HK.out (0, 0)
              clear hown3 hgr3 hb3 s2
              go_wp2_with fail
              go_ret2
              rw [HV.out]
              exact HF.out
            · have HSE : Hid (Sg w1 2 (.slice (some ⟨gv, (j + 1) * 2, none⟩) (c.ps.length - (j + 1)) (k1 - (j + 1))) (c.ps.length - (j + 1)) (prC (c.ps.drop (j + 1)))) := HST.out w1 HB1.out (j + 1) gv rfl
              have HL : Hid ((del c.ps j).length = j + (c.ps.length - (j + 1)) ∧ prC (del c.ps j) = prC (c.ps.take j) ++ prC (c.ps.drop (j + 1))) := ⟨del_n1 hlt, by unfold del; rw [prC_app]⟩
              go_wp2_with (at_builtin; refine wpList_append_sg _ rfl _ _ rfl Try.underlying48 HI.out.1 HI.out.2.1 HI.out.2.2.1 HI.out.2.2.2 rfl (by decide) (by decide) w.heap.size _ _ _ rfl HO1.out _ _ _ rfl HSE.out ?c1_5 ?c2_5 ?_)
              case c1_5 => exact le_mega2 hjn HVN.out (by first | exact Nat.zero_le _ | exact sub16 HVN.out)
              try (case c2_5 => exact hw1s)
              intro v3 w3 hown3 hgr3
              obtain ⟨b3, d3, rfl⟩ := own_slice hown3
              have hb3 : Below w.heap.size w w3 := bel_grown (base := 0) HB1.out HO1.out hgr3 rfl
              have t1 : w3.cell? ⟨g, o + 2, none⟩ = some (.slice (some ⟨gv, 0, none⟩) c.ps.length k1) := cell_later hb3 (a := ⟨g, o + 2, none⟩) hgl h3
              have t2 : w3.frozen? ⟨g, o + 2, none⟩ = false := frozen_at ((hb3.block _ hgl).trans H.out.hg) _
              have HF := Dod.freshP H.out hB hb3 (by rw [HL.out.1, HL.out.2]; first | exact hown3 | simpa using hown3) HK.out (0, 0)
              clear hown3 hgr3 hb3 s1 s2
              go_wp2_with fail
              go_ret2
              rw [HV.out]
              exact HF.out
        · have hxd2 : (nth (keysP c.ps) j == nth a 0) = false := by simpa using hxe
          have HTH : Hid (thB (keysP c.ps) (nth a 0) = false) := by unfold thB; rw [Hid, HLB.out]; simp [hxe]
          clear hxd hxk hxe
          go_quiet (fail)
          obtain ⟨wy, hwy⟩ : ∃ wy, wy = wz.drewN nq := ⟨_, rfl⟩
          rw [← hwy]
          have HBY : Hid (Below w.heap.size w wy) := by rw [hwy]; exact below_drawn HBZ.out _
          have y2 : wy.cell? ⟨g, o + 2, none⟩ = some (.slice (some x) c.ps.length k1) := cell_later HBY.out (a := ⟨g, o + 2, none⟩) hgl h3
          have yy : wy.cell? y = some (.int .i64 (nth a 0)) := cell_later HBY.out hyb hy
          clear hwy z2 zy HBZ zx
          clear wz
          have hjn : j ≤ c.ps.length := hj
          have hwy : w.heap.size ≤ wy.heap.size := HBY.out.size
          have HSH : Hid (Sg wy 2 (.slice (some x) j k1) j (prC (c.ps.take j))) := HSG.out wy HBY.out j hj
          have hjk : j ≤ k1 := Nat.le_trans hj HCP.out
          obtain rfl := HX0.out
          obtain ⟨gv, rfl⟩ : ∃ gv, gv = gv0 := ⟨_, rfl⟩
          rcases HQ.out with ⟨hn, rfl⟩ | ⟨hn, rfl⟩ | ⟨hn, rfl⟩
          · have HV : Hid (dicV c 2 a = ((0, 1), c)) := by
              unfold dicV
              rw [Hid, if_neg (by decide), if_pos rfl, HTH.out]
              rfl
            clear HOK
            go_wp2_with (at_builtin; refine wpList_append_sg _ rfl _ _ rfl Try.underlying48 HI.out.1 HI.out.2.1 HI.out.2.2.1 HI.out.2.2.2 rfl (by decide) (by decide) wy.heap.size (.slice none 0 0) 0 [] rfl (World.ownsRow_nil _ _ _ _) _ _ _ rfl HSH.out ?c1_6 ?c2_6 ?_)
            case c1_6 => first | exact le_mega hjn HVN.out | simpa using le_mega hjn HVN.out
            try (case c2_6 => exact Nat.le_refl _)
            intro v1 w1 hown1 hgr1
            obtain ⟨b1, d1, rfl⟩ := own_slice hown1
            have hb01 : Below wy.heap.size wy w1 := (Below.refl _ _).grown hgr1 (Nat.le_refl _) (fun b hb => by cases hb)
            have hb1 : Below w.heap.size w w1 := below_then HBY.out hb01
            have s1 : w1.cell? ⟨g, o + 2, none⟩ = some (.slice (some ⟨gv, 0, none⟩) c.ps.length k1) := cell_later hb1 (a := ⟨g, o + 2, none⟩) hgl h3
            have s2 : w1.frozen? ⟨g, o + 2, none⟩ = false := frozen_at ((hb1.block _ hgl).trans H.out.hg) _
            have sy : w1.cell? y = some (.int .i64 (nth a 0)) := cell_later hb1 hyb hy
            have HO1 : Hid (w1.ownsRow w.heap.size 52 2 (.slice b1 j d1) j (prC (c.ps.take j))) := by
              have := own_base hown1 hwy
              simpa [Hid] using this
            have HB1 : Hid (Below w.heap.size w w1) := hb1
            have hw1s : w.heap.size ≤ w1.heap.size := hb1.size
            clear hown1 hgr1 hb1 hb01 y2 yy
            go_wp2_with fail
            go_ret2
            rw [HV.out]
            exact Dod.same H.out HB1.out (0, 1)
          · by_cases hfull : c.cap ≤ (c.ps.length : Int)
            · have HV : Hid (dicV c 3 a = ((0, 2), c)) := by
                unfold dicV
                rw [Hid, if_neg (by decide), if_neg (by decide), if_pos rfl, HTH.out, if_neg (by decide), if_pos hfull]
              have hd1 : decide (c.cap ≤ (c.ps.length : Int)) = true := by simpa using hfull
              clear HOK hfull
              go_wp2_with (at_builtin; refine wpList_append_sg _ rfl _ _ rfl Try.underlying48 HI.out.1 HI.out.2.1 HI.out.2.2.1 HI.out.2.2.2 rfl (by decide) (by decide) wy.heap.size (.slice none 0 0) 0 [] rfl (World.ownsRow_nil _ _ _ _) _ _ _ rfl HSH.out ?c1_7 ?c2_7 ?_)
              case c1_7 => first | exact le_mega hjn HVN.out | simpa using le_mega hjn HVN.out
              try (case c2_7 => exact Nat.le_refl _)
              intro v1 w1 hown1 hgr1
              obtain ⟨b1, d1, rfl⟩ := own_slice hown1
              have hb01 : Below wy.heap.size wy w1 := (Below.refl _ _).grown hgr1 (Nat.le_refl _) (fun b hb => by cases hb)
              have hb1 : Below w.heap.size w w1 := below_then HBY.out hb01
              have s1 : w1.cell? ⟨g, o + 2, none⟩ = some (.slice (some ⟨gv, 0, none⟩) c.ps.length k1) := cell_later hb1 (a := ⟨g, o + 2, none⟩) hgl h3
              have s2 : w1.frozen? ⟨g, o + 2, none⟩ = false := frozen_at ((hb1.block _ hgl).trans H.out.hg) _
              have sy : w1.cell? y = some (.int .i64 (nth a 0)) := cell_later hb1 hyb hy
              have HO1 : Hid (w1.ownsRow w.heap.size 52 2 (.slice b1 j d1) j (prC (c.ps.take j))) := by
                have := own_base hown1 hwy
                simpa [Hid] using this
              have HB1 : Hid (Below w.heap.size w w1) := hb1
              have hw1s : w.heap.size ≤ w1.heap.size := hb1.size
              clear hown1 hgr1 hb1 hb01 y2 yy
              go_wp2_with fail
              go_ret2
              rw [HV.out]
              exact Dod.same H.out HB1.out (0, 2)
            · have HV : Hid (dicV c 3 a = ((0, 0), { c with ps := ins c.ps j (nth a 0, nth a 1) })) := by
                unfold dicV
                rw [Hid, if_neg (by decide), if_neg (by decide), if_pos rfl, HTH.out, if_neg (by decide), if_neg hfull, HLB.out]
              have hd1 : decide (c.cap ≤ (c.ps.length : Int)) = false := by simpa using hfull
              have HK : Hid (CoOk { c with ps := ins c.ps j (nth a 0, nth a 1) }) := by
                have := HOK.out
                rw [HV.out] at this
                exact this
              have HN : Hid (a.length = 2) := hn
              rw [hn]
              clear HOK hfull hn
              go_wp2_with (at_builtin; refine wpList_append_sg _ rfl _ _ rfl Try.underlying48 HI.out.1 HI.out.2.1 HI.out.2.2.1 HI.out.2.2.2 rfl (by decide) (by decide) wy.heap.size (.slice none 0 0) 0 [] rfl (World.ownsRow_nil _ _ _ _) _ _ _ rfl HSH.out ?c1_8 ?c2_8 ?_)
              case c1_8 => first | exact le_mega hjn HVN.out | simpa using le_mega hjn HVN.out
              try (case c2_8 => exact Nat.le_refl _)
              intro v1 w1 hown1 hgr1
              obtain ⟨b1, d1, rfl⟩ := own_slice hown1
              have hb01 : Below wy.heap.size wy w1 := (Below.refl _ _).grown hgr1 (Nat.le_refl _) (fun b hb => by cases hb)
              have hb1 : Below w.heap.size w w1 := below_then HBY.out hb01
              have s1 : w1.cell? ⟨g, o + 2, none⟩ = some (.slice (some ⟨gv, 0, none⟩) c.ps.length k1) := cell_later hb1 (a := ⟨g, o + 2, none⟩) hgl h3
              have s2 : w1.frozen? ⟨g, o + 2, none⟩ = false := frozen_at ((hb1.block _ hgl).trans H.out.hg) _
              have sy : w1.cell? y = some (.int .i64 (nth a 0)) := cell_later hb1 hyb hy
              have HO1 : Hid (w1.ownsRow w.heap.size 52 2 (.slice b1 j d1) j (prC (c.ps.take j))) := by
                have := own_base hown1 hwy
                simpa [Hid] using this
              have HB1 : Hid (Below w.heap.size w w1) := hb1
              have hw1s : w.heap.size ≤ w1.heap.size := hb1.size
              clear hown1 hgr1 hb1 hb01 y2 yy
              have ty : w1.cell? ⟨y.block, y.off + 1, none⟩ = some (.int .i64 (nth a 1)) := HY2.out w1 HB1.out HN.out
              go_wp2_with fail
              go_region_law
                ((refine step_lies_wide _ (by rfl) _ _ _ (by rfl) w.heap.size 52 i0 _ 2 16 Try.underlying48 HI.out.1 HI.out.2.1 HI.out.2.2.1 HI.out.2.2.2 rfl (by decide) (.slice b1 j d1) j (prC (c.ps.take j)) (by rfl) ((HO1.out.alloc _).drew) ⟨w1.heap.size, 0, none⟩ 1 1 [.int .i64 (nth a 0), .int .i64 (nth a 1)] (by rfl) (by rfl) (World.news_of_block (cs := #[.int .i64 (nth a 0), .int .i64 (nth a 1)]) (t := 52) (fr := (0, 0)) (heap_alloc_new w1 _)) (one_pair _ _) (by decide) (ins_max hjn HVN.out) (ins_byt hjn HVN.out) (al_size hw1s) (w1.heap.size + 1) (by simp) ?_; intro g2 cp2 w2 hown2 hgr2 hat2 hlt2; have hb2 : Below w.heap.size w w2 := (below_drawn (below_alloc HB1.out _) 1).grown hgr2 (al_size hw1s) (fun b hb => (own_block HO1.out b hb).1)))
              all_goals
                have u1 : w2.cell? ⟨g, o + 2, none⟩ = some (.slice (some ⟨gv, 0, none⟩) c.ps.length k1) := cell_later hb2 (a := ⟨g, o + 2, none⟩) hgl h3
                have HO2 : Hid (w2.ownsRow w.heap.size 52 2 (.slice (some ⟨g2, 0, none⟩) (j + 1) cp2) (j + 1) (prC (c.ps.take j) ++ [.int .i64 (nth a 0), .int .i64 (nth a 1)])) := hown2
                have HB2 : Hid (Below w.heap.size w w2) := hb2
                have HW2 : Hid (w.heap.size ≤ w2.heap.size) := hb2.size
                clear hown2 hgr2 hb2 s1 s2 sy ty hat2 hlt2
                by_cases hki : k1 = j
                · have hni : c.ps.length = j := end_eq hjn HCP.out hki
                  have HSE : Hid (Sg w2 2 (.slice (some ⟨gv, 0, none⟩) 0 0) 0 []) := Sg.empty _ _ _
                  have HL : Hid ((ins c.ps j (nth a 0, nth a 1)).length = j + 1 + 0 ∧ prC (ins c.ps j (nth a 0, nth a 1)) = prC (c.ps.take j) ++ [.int .i64 (nth a 0), .int .i64 (nth a 1)] ++ []) := ⟨ins_n0 _ hjn hni, by rw [← take_ins, prC_app, prC_app, ← hni, List.drop_length]; rfl⟩
                  have u2 : w2.cell? ⟨g, o + 2, none⟩ = some (.slice (some ⟨gv, 0, none⟩) j j) := by rw [u1, hni, hki]
                  clear u1 hni hki
                  go_wp2_with (at_builtin; refine wpList_append_sg _ rfl _ _ rfl Try.underlying48 HI.out.1 HI.out.2.1 HI.out.2.2.1 HI.out.2.2.2 rfl (by decide) (by decide) w.heap.size _ _ _ rfl HO2.out _ _ _ rfl HSE.out ?c1_9 ?c2_9 ?_)
                  case c1_9 => first | exact le_mega3 hjn HVN.out (Nat.zero_le _) | simpa using le_mega3 hjn HVN.out (Nat.zero_le 16)
                  try (case c2_9 => exact HW2.out)
                  intro v3 w3 hown3 hgr3
                  obtain ⟨b3, d3, rfl⟩ := own_slice hown3
                  have hb3 : Below w.heap.size w w3 := bel_grown (base := 0) HB2.out HO2.out hgr3 rfl
                  have t1 : w3.cell? ⟨g, o + 2, none⟩ = some (.slice (some ⟨gv, 0, none⟩) c.ps.length k1) := cell_later hb3 (a := ⟨g, o + 2, none⟩) hgl h3
                  have t2 : w3.frozen? ⟨g, o + 2, none⟩ = false := frozen_at ((hb3.block _ hgl).trans H.out.hg) _
                  have HF := Dod.freshP H.out hB hb3 (by rw [HL.out.1, HL.out.2]; first | exact hown3 | simpa using hown3) HK.out (0, 0)
                  clear hown3 hgr3 hb3
                  go_wp2_with fail
                  go_ret2
                  rw [HV.out]
                  exact HF.out
                · have HSE : Hid (Sg w2 2 (.slice (some ⟨gv, j * 2, none⟩) (c.ps.length - j) (k1 - j)) (c.ps.length - j) (prC (c.ps.drop j))) := HST.out w2 HB2.out j gv rfl
                  have HL : Hid ((ins c.ps j (nth a 0, nth a 1)).length = j + 1 + (c.ps.length - j) ∧ prC (ins c.ps j (nth a 0, nth a 1)) = prC (c.ps.take j) ++ [.int .i64 (nth a 0), .int .i64 (nth a 1)] ++ prC (c.ps.drop j)) := ⟨ins_n1 _ hjn, by rw [← take_ins, prC_app, prC_app]; rfl⟩
                  go_wp2_with (at_builtin; refine wpList_append_sg _ rfl _ _ rfl Try.underlying48 HI.out.1 HI.out.2.1 HI.out.2.2.1 HI.out.2.2.2 rfl (by decide) (by decide) w.heap.size _ _ _ rfl HO2.out _ _ _ rfl HSE.out ?c1_10 ?c2_10 ?_)
                  case c1_10 => exact le_mega3 hjn HVN.out (sub16 HVN.out)
                  try (case c2_10 => exact HW2.out)
                  intro v3 w3 hown3 hgr3
                  obtain ⟨b3, d3, rfl⟩ := own_slice hown3
                  have hb3 : Below w.heap.size w w3 := bel_grown (base := 0) HB2.out HO2.out hgr3 rfl
                  have t1 : w3.cell? ⟨g, o + 2, none⟩ = some (.slice (some ⟨gv, 0, none⟩) c.ps.length k1) := cell_later hb3 (a := ⟨g, o + 2, none⟩) hgl h3
                  have t2 : w3.frozen? ⟨g, o + 2, none⟩ = false := frozen_at ((hb3.block _ hgl).trans H.out.hg) _
                  have HF := Dod.freshP H.out hB hb3 (by rw [HL.out.1, HL.out.2]; first | exact hown3 | simpa using hown3) HK.out (0, 0)
                  clear hown3 hgr3 hb3
                  go_wp2_with fail
                  go_ret2
                  rw [HV.out]
                  exact HF.out
          · have HV : Hid (dicV c 4 a = ((0, 1), c)) := by
              unfold dicV
              rw [Hid, if_neg (by decide), if_neg (by decide), if_neg (by decide), HTH.out]
              rfl
            clear HOK
            go_wp2_with (at_builtin; refine wpList_append_sg _ rfl _ _ rfl Try.underlying48 HI.out.1 HI.out.2.1 HI.out.2.2.1 HI.out.2.2.2 rfl (by decide) (by decide) wy.heap.size (.slice none 0 0) 0 [] rfl (World.ownsRow_nil _ _ _ _) _ _ _ rfl HSH.out ?c1_11 ?c2_11 ?_)
            case c1_11 => first | exact le_mega hjn HVN.out | simpa using le_mega hjn HVN.out
            try (case c2_11 => exact Nat.le_refl _)
            intro v1 w1 hown1 hgr1
            obtain ⟨b1, d1, rfl⟩ := own_slice hown1
            have hb01 : Below wy.heap.size wy w1 := (Below.refl _ _).grown hgr1 (Nat.le_refl _) (fun b hb => by cases hb)
            have hb1 : Below w.heap.size w w1 := below_then HBY.out hb01
            have s1 : w1.cell? ⟨g, o + 2, none⟩ = some (.slice (some ⟨gv, 0, none⟩) c.ps.length k1) := cell_later hb1 (a := ⟨g, o + 2, none⟩) hgl h3
            have s2 : w1.frozen? ⟨g, o + 2, none⟩ = false := frozen_at ((hb1.block _ hgl).trans H.out.hg) _
            have sy : w1.cell? y = some (.int .i64 (nth a 0)) := cell_later hb1 hyb hy
            have HO1 : Hid (w1.ownsRow w.heap.size 52 2 (.slice b1 j d1) j (prC (c.ps.take j))) := by
              have := own_base hown1 hwy
              simpa [Hid] using this
            have HB1 : Hid (Below w.heap.size w w1) := hb1
            have hw1s : w.heap.size ≤ w1.heap.size := hb1.size
            clear hown1 hgr1 hb1 hb01 y2 yy
            go_wp2_with fail
            go_ret2
            rw [HV.out]
            exact Dod.same H.out HB1.out (0, 1)
    · have hje : j = c.ps.length := Nat.le_antisymm hj (Nat.not_lt.1 hlt)
      have HLB : Hid (lb (keysP c.ps) (nth a 0) = j) := lb_isP hj HLW.out (fun h => absurd h hlt)
      have HTH : Hid (thB (keysP c.ps) (nth a 0) = false) := by unfold thB; rw [Hid, HLB.out, hje]; simp [hkl]
      have hld : decide ((j : Int) < (c.ps.length : Int)) = false := by simpa using hlt
      have hld2 : decide (j < c.ps.length) = false := by simpa using hlt
      have HJE : Hid (j = c.ps.length) := hje
      clear HLW hje
      go_wp2_with fail
      go_quiet (fail)
      go_wp2_with fail
      obtain ⟨wz, hwz⟩ : ∃ wz, wz = wr.drewN nq := ⟨_, rfl⟩
      rw [← hwz]
      have HBZ : Hid (Below w.heap.size w wz) := by rw [hwz]; exact below_drawn HB.out _
      have z2 : wz.cell? ⟨g, o + 2, none⟩ = some (.slice a1 c.ps.length k1) := cell_later HBZ.out (a := ⟨g, o + 2, none⟩) hgl h3
      have zy : wz.cell? y = some (.int .i64 (nth a 0)) := cell_later HBZ.out hyb hy
      clear hwz s2 sy HB
      go_quiet (fail)
      obtain ⟨wy, hwy⟩ : ∃ wy, wy = wz.drewN nq := ⟨_, rfl⟩
      rw [← hwy]
      have HBY : Hid (Below w.heap.size w wy) := by rw [hwy]; exact below_drawn HBZ.out _
      have y2 : wy.cell? ⟨g, o + 2, none⟩ = some (.slice a1 c.ps.length k1) := cell_later HBY.out (a := ⟨g, o + 2, none⟩) hgl h3
      have yy : wy.cell? y = some (.int .i64 (nth a 0)) := cell_later HBY.out hyb hy
      clear hwy z2 zy HBZ
      clear wz
      have hjn : j ≤ c.ps.length := hj
      have hwy : w.heap.size ≤ wy.heap.size := HBY.out.size
      have HSH : Hid (Sg wy 2 (.slice a1 j k1) j (prC (c.ps.take j))) := HSG.out wy HBY.out j hj
      have hjk : j ≤ k1 := Nat.le_trans hj HCP.out
      rcases HQ.out with ⟨hn, rfl⟩ | ⟨hn, rfl⟩ | ⟨hn, rfl⟩
      · have HV : Hid (dicV c 2 a = ((0, 1), c)) := by
          unfold dicV
          rw [Hid, if_neg (by decide), if_pos rfl, HTH.out]
          rfl
        clear HOK
        go_wp2_with (at_builtin; refine wpList_append_sg _ rfl _ _ rfl Try.underlying48 HI.out.1 HI.out.2.1 HI.out.2.2.1 HI.out.2.2.2 rfl (by decide) (by decide) wy.heap.size (.slice none 0 0) 0 [] rfl (World.ownsRow_nil _ _ _ _) _ _ _ rfl HSH.out ?c1_12 ?c2_12 ?_)
        case c1_12 => first | exact le_mega hjn HVN.out | simpa using le_mega hjn HVN.out
        try (case c2_12 => exact Nat.le_refl _)
        intro v1 w1 hown1 hgr1
        obtain ⟨b1, d1, rfl⟩ := own_slice hown1
        have hb01 : Below wy.heap.size wy w1 := (Below.refl _ _).grown hgr1 (Nat.le_refl _) (fun b hb => by cases hb)
        have hb1 : Below w.heap.size w w1 := below_then HBY.out hb01
        have s1 : w1.cell? ⟨g, o + 2, none⟩ = some (.slice a1 c.ps.length k1) := cell_later hb1 (a := ⟨g, o + 2, none⟩) hgl h3
        have s2 : w1.frozen? ⟨g, o + 2, none⟩ = false := frozen_at ((hb1.block _ hgl).trans H.out.hg) _
        have sy : w1.cell? y = some (.int .i64 (nth a 0)) := cell_later hb1 hyb hy
        have HO1 : Hid (w1.ownsRow w.heap.size 52 2 (.slice b1 j d1) j (prC (c.ps.take j))) := by
          have := own_base hown1 hwy
          simpa [Hid] using this
        have HB1 : Hid (Below w.heap.size w w1) := hb1
        have hw1s : w.heap.size ≤ w1.heap.size := hb1.size
        clear hown1 hgr1 hb1 hb01 y2 yy
        go_wp2_with fail
        go_ret2
        rw [HV.out]
        exact Dod.same H.out HB1.out (0, 1)
      · by_cases hfull : c.cap ≤ (c.ps.length : Int)
        · have HV : Hid (dicV c 3 a = ((0, 2), c)) := by
            unfold dicV
            rw [Hid, if_neg (by decide), if_neg (by decide), if_pos rfl, HTH.out, if_neg (by decide), if_pos hfull]
          have hd1 : decide (c.cap ≤ (c.ps.length : Int)) = true := by simpa using hfull
          clear HOK hfull
          go_wp2_with (at_builtin; refine wpList_append_sg _ rfl _ _ rfl Try.underlying48 HI.out.1 HI.out.2.1 HI.out.2.2.1 HI.out.2.2.2 rfl (by decide) (by decide) wy.heap.size (.slice none 0 0) 0 [] rfl (World.ownsRow_nil _ _ _ _) _ _ _ rfl HSH.out ?c1_13 ?c2_13 ?_)
          case c1_13 => first | exact le_mega hjn HVN.out | simpa using le_mega hjn HVN.out
          try (case c2_13 => exact Nat.le_refl _)
          intro v1 w1 hown1 hgr1
          obtain ⟨b1, d1, rfl⟩ := own_slice hown1
          have hb01 : Below wy.heap.size wy w1 := (Below.refl _ _).grown hgr1 (Nat.le_refl _) (fun b hb => by cases hb)
          have hb1 : Below w.heap.size w w1 := below_then HBY.out hb01
          have s1 : w1.cell? ⟨g, o + 2, none⟩ = some (.slice a1 c.ps.length k1) := cell_later hb1 (a := ⟨g, o + 2, none⟩) hgl h3
          have s2 : w1.frozen? ⟨g, o + 2, none⟩ = false := frozen_at ((hb1.block _ hgl).trans H.out.hg) _
          have sy : w1.cell? y = some (.int .i64 (nth a 0)) := cell_later hb1 hyb hy
          have HO1 : Hid (w1.ownsRow w.heap.size 52 2 (.slice b1 j d1) j (prC (c.ps.take j))) := by
            have := own_base hown1 hwy
            simpa [Hid] using this
          have HB1 : Hid (Below w.heap.size w w1) := hb1
          have hw1s : w.heap.size ≤ w1.heap.size := hb1.size
          clear hown1 hgr1 hb1 hb01 y2 yy
          go_wp2_with fail
          go_ret2
          rw [HV.out]
          exact Dod.same H.out HB1.out (0, 2)
        · have HV : Hid (dicV c 3 a = ((0, 0), { c with ps := ins c.ps j (nth a 0, nth a 1) })) := by
            unfold dicV
            rw [Hid, if_neg (by decide), if_neg (by decide), if_pos rfl, HTH.out, if_neg (by decide), if_neg hfull, HLB.out]
          have hd1 : decide (c.cap ≤ (c.ps.length : Int)) = false := by simpa using hfull
          have HK : Hid (CoOk { c with ps := ins c.ps j (nth a 0, nth a 1) }) := by
            have := HOK.out
            rw [HV.out] at this
            exact this
          have HN : Hid (a.length = 2) := hn
          rw [hn]
          clear HOK hfull hn
          go_wp2_with (at_builtin; refine wpList_append_sg _ rfl _ _ rfl Try.underlying48 HI.out.1 HI.out.2.1 HI.out.2.2.1 HI.out.2.2.2 rfl (by decide) (by decide) wy.heap.size (.slice none 0 0) 0 [] rfl (World.ownsRow_nil _ _ _ _) _ _ _ rfl HSH.out ?c1_14 ?c2_14 ?_)
          case c1_14 => first | exact le_mega hjn HVN.out | simpa using le_mega hjn HVN.out
          try (case c2_14 => exact Nat.le_refl _)
          intro v1 w1 hown1 hgr1
          obtain ⟨b1, d1, rfl⟩ := own_slice hown1
          have hb01 : Below wy.heap.size wy w1 := (Below.refl _ _).grown hgr1 (Nat.le_refl _) (fun b hb => by cases hb)
          have hb1 : Below w.heap.size w w1 := below_then HBY.out hb01
          have s1 : w1.cell? ⟨g, o + 2, none⟩ = some (.slice a1 c.ps.length k1) := cell_later hb1 (a := ⟨g, o + 2, none⟩) hgl h3
          have s2 : w1.frozen? ⟨g, o + 2, none⟩ = false := frozen_at ((hb1.block _ hgl).trans H.out.hg) _
          have sy : w1.cell? y = some (.int .i64 (nth a 0)) := cell_later hb1 hyb hy
          have HO1 : Hid (w1.ownsRow w.heap.size 52 2 (.slice b1 j d1) j (prC (c.ps.take j))) := by
            have := own_base hown1 hwy
            simpa [Hid] using this
          have HB1 : Hid (Below w.heap.size w w1) := hb1
          have hw1s : w.heap.size ≤ w1.heap.size := hb1.size
          clear hown1 hgr1 hb1 hb01 y2 yy
          have ty : w1.cell? ⟨y.block, y.off + 1, none⟩ = some (.int .i64 (nth a 1)) := HY2.out w1 HB1.out HN.out
          go_wp2_with fail
          go_region_law
            ((refine step_lies_wide _ (by rfl) _ _ _ (by rfl) w.heap.size 52 i0 _ 2 16 Try.underlying48 HI.out.1 HI.out.2.1 HI.out.2.2.1 HI.out.2.2.2 rfl (by decide) (.slice b1 j d1) j (prC (c.ps.take j)) (by rfl) ((HO1.out.alloc _).drew) ⟨w1.heap.size, 0, none⟩ 1 1 [.int .i64 (nth a 0), .int .i64 (nth a 1)] (by rfl) (by rfl) (World.news_of_block (cs := #[.int .i64 (nth a 0), .int .i64 (nth a 1)]) (t := 52) (fr := (0, 0)) (heap_alloc_new w1 _)) (one_pair _ _) (by decide) (ins_max hjn HVN.out) (ins_byt hjn HVN.out) (al_size hw1s) (w1.heap.size + 1) (by simp) ?_; intro g2 cp2 w2 hown2 hgr2 hat2 hlt2; have hb2 : Below w.heap.size w w2 := (below_drawn (below_alloc HB1.out _) 1).grown hgr2 (al_size hw1s) (fun b hb => (own_block HO1.out b hb).1)))
          all_goals
            have u1 : w2.cell? ⟨g, o + 2, none⟩ = some (.slice a1 c.ps.length k1) := cell_later hb2 (a := ⟨g, o + 2, none⟩) hgl h3
            have HO2 : Hid (w2.ownsRow w.heap.size 52 2 (.slice (some ⟨g2, 0, none⟩) (j + 1) cp2) (j + 1) (prC (c.ps.take j) ++ [.int .i64 (nth a 0), .int .i64 (nth a 1)])) := hown2
            have HB2 : Hid (Below w.heap.size w w2) := hb2
            have HW2 : Hid (w.heap.size ≤ w2.heap.size) := hb2.size
            clear hown2 hgr2 hb2 s1 s2 sy ty hat2 hlt2
            by_cases hki : k1 = j
            · have hni : c.ps.length = j := end_eq hjn HCP.out hki
              have HSE : Hid (Sg w2 2 (.slice a1 0 0) 0 []) := Sg.empty _ _ _
              have HL : Hid ((ins c.ps j (nth a 0, nth a 1)).length = j + 1 + 0 ∧ prC (ins c.ps j (nth a 0, nth a 1)) = prC (c.ps.take j) ++ [.int .i64 (nth a 0), .int .i64 (nth a 1)] ++ []) := ⟨ins_n0 _ hjn hni, by rw [← take_ins, prC_app, prC_app, ← hni, List.drop_length]; rfl⟩
              have u2 : w2.cell? ⟨g, o + 2, none⟩ = some (.slice a1 j j) := by rw [u1, hni, hki]
              clear u1 hni hki
              go_wp2_with (at_builtin; refine wpList_append_sg _ rfl _ _ rfl Try.underlying48 HI.out.1 HI.out.2.1 HI.out.2.2.1 HI.out.2.2.2 rfl (by decide) (by decide) w.heap.size _ _ _ rfl HO2.out _ _ _ rfl HSE.out ?c1_15 ?c2_15 ?_)
              case c1_15 => first | exact le_mega3 hjn HVN.out (Nat.zero_le _) | simpa using le_mega3 hjn HVN.out (Nat.zero_le 16)
              try (case c2_15 => exact HW2.out)
              intro v3 w3 hown3 hgr3
              obtain ⟨b3, d3, rfl⟩ := own_slice hown3
              have hb3 : Below w.heap.size w w3 := bel_grown (base := 0) HB2.out HO2.out hgr3 rfl
              have t1 : w3.cell? ⟨g, o + 2, none⟩ = some (.slice a1 c.ps.length k1) := cell_later hb3 (a := ⟨g, o + 2, none⟩) hgl h3
              have t2 : w3.frozen? ⟨g, o + 2, none⟩ = false := frozen_at ((hb3.block _ hgl).trans H.out.hg) _
              have HF := Dod.freshP H.out hB hb3 (by rw [HL.out.1, HL.out.2]; first | exact hown3 | simpa using hown3) HK.out (0, 0)
              clear hown3 hgr3 hb3
              go_wp2_with fail
              go_ret2
              rw [HV.out]
              exact HF.out
            · obtain ⟨y5, hy5⟩ : ∃ y5, a1 = some y5 := by
                cases a1 with
                | none => exact absurd (HNO.out rfl) (fun e => hki (by rw [e]; exact (Nat.le_zero.1 (Nat.le_trans hjk (Nat.le_of_eq e))).symm))
                | some y5 => exact ⟨y5, rfl⟩
              subst hy5
              obtain ⟨gv, rfl⟩ := HGV.out y5 rfl
              have HSE : Hid (Sg w2 2 (.slice (some ⟨gv, j * 2, none⟩) (c.ps.length - j) (k1 - j)) (c.ps.length - j) (prC (c.ps.drop j))) := HST.out w2 HB2.out j gv rfl
              have HL : Hid ((ins c.ps j (nth a 0, nth a 1)).length = j + 1 + (c.ps.length - j) ∧ prC (ins c.ps j (nth a 0, nth a 1)) = prC (c.ps.take j) ++ [.int .i64 (nth a 0), .int .i64 (nth a 1)] ++ prC (c.ps.drop j)) := ⟨ins_n1 _ hjn, by rw [← take_ins, prC_app, prC_app]; rfl⟩
              go_wp2_with (at_builtin; refine wpList_append_sg _ rfl _ _ rfl Try.underlying48 HI.out.1 HI.out.2.1 HI.out.2.2.1 HI.out.2.2.2 rfl (by decide) (by decide) w.heap.size _ _ _ rfl HO2.out _ _ _ rfl HSE.out ?c1_16 ?c2_16 ?_)
              case c1_16 => exact le_mega3 hjn HVN.out (sub16 HVN.out)
              try (case c2_16 => exact HW2.out)
              intro v3 w3 hown3 hgr3
              obtain ⟨b3, d3, rfl⟩ := own_slice hown3
              have hb3 : Below w.heap.size w w3 := bel_grown (base := 0) HB2.out HO2.out hgr3 rfl
              have t1 : w3.cell? ⟨g, o + 2, none⟩ = some (.slice (some ⟨gv, 0, none⟩) c.ps.length k1) := cell_later hb3 (a := ⟨g, o + 2, none⟩) hgl h3
              have t2 : w3.frozen? ⟨g, o + 2, none⟩ = false := frozen_at ((hb3.block _ hgl).trans H.out.hg) _
              have HF := Dod.freshP H.out hB hb3 (by rw [HL.out.1, HL.out.2]; first | exact hown3 | simpa using hown3) HK.out (0, 0)
              clear hown3 hgr3 hb3
              go_wp2_with fail
              go_ret2
              rw [HV.out]
              exact HF.out
      · have HV : Hid (dicV c 4 a = ((0, 1), c)) := by
          unfold dicV
          rw [Hid, if_neg (by decide), if_neg (by decide), if_neg (by decide), HTH.out]
          rfl
        clear HOK
        go_wp2_with (at_builtin; refine wpList_append_sg _ rfl _ _ rfl Try.underlying48 HI.out.1 HI.out.2.1 HI.out.2.2.1 HI.out.2.2.2 rfl (by decide) (by decide) wy.heap.size (.slice none 0 0) 0 [] rfl (World.ownsRow_nil _ _ _ _) _ _ _ rfl HSH.out ?c1_17 ?c2_17 ?_)
        case c1_17 => first | exact le_mega hjn HVN.out | simpa using le_mega hjn HVN.out
        try (case c2_17 => exact Nat.le_refl _)
        intro v1 w1 hown1 hgr1
        obtain ⟨b1, d1, rfl⟩ := own_slice hown1
        have hb01 : Below wy.heap.size wy w1 := (Below.refl _ _).grown hgr1 (Nat.le_refl _) (fun b hb => by cases hb)
        have hb1 : Below w.heap.size w w1 := below_then HBY.out hb01
        have s1 : w1.cell? ⟨g, o + 2, none⟩ = some (.slice a1 c.ps.length k1) := cell_later hb1 (a := ⟨g, o + 2, none⟩) hgl h3
        have s2 : w1.frozen? ⟨g, o + 2, none⟩ = false := frozen_at ((hb1.block _ hgl).trans H.out.hg) _
        have sy : w1.cell? y = some (.int .i64 (nth a 0)) := cell_later hb1 hyb hy
        have HO1 : Hid (w1.ownsRow w.heap.size 52 2 (.slice b1 j d1) j (prC (c.ps.take j))) := by
          have := own_base hown1 hwy
          simpa [Hid] using this
        have HB1 : Hid (Below w.heap.size w w1) := hb1
        have hw1s : w.heap.size ≤ w1.heap.size := hb1.size
        clear hown1 hgr1 hb1 hb01 y2 yy
        go_wp2_with fail
        go_ret2
        rw [HV.out]
        exact Dod.same H.out HB1.out (0, 1)
end Go.Proofs.Ytgbmnngmfcneaaa.Pl