/- A chain's calls: the document's. -/
import Derived.Test.YtgbmnngmfcneaaaPmF
import Derived.Test.YtgbmnngmfcneaaaPcC
namespace Go.Proofs.Ytgbmnngmfcneaaa.Pl
open Go.ChangeShapes Go.WideShapes Go.ChangeAt Go.RowKit
attribute [local go_sem ↓] Go.wp_at_zero Go.wp_at_succ

theorem Dod.behind {w w1 w2 : World} {B g o : Nat} {L : List Value} {v p : Value} {x : (Int × Int) × Co} {e : Ending} (hb : Below w.heap.size w w1) (h : Dod w1 B g o L v p x e w2) : Dod w B g o L v p x e w2 := by
  obtain ⟨he, v', p', h1, h2, h3, h4⟩ := h
  exact ⟨he, v', p', h1, (Keep.of_below hb _).trans h2 (fun b hb => Or.inl hb), h3.later hb.size, h4.later hb.size⟩
theorem ar4_cases {call : Int} {n : Nat} (h : ar4 call = (n : Int)) : (n = 0 ∧ (call = 5 ∨ call = 7)) ∨ (n = 1 ∧ (call = 1 ∨ call = 4 ∨ call = 6 ∨ call = 8)) := by
  unfold ar4 at h
  repeat' split at h
  all_goals omega
set_option maxRecDepth 100000 in
set_option maxHeartbeats 4000000 in
theorem chains_any {w : World} {B g o : Nat} {L : List Value} {c : Co} {v p va : Value} {a : List Int} (call : Int) (h : ShAt w B g o L c v p) (ha : Nl w va a) (h1 : ar4 call = (a.length : Int)) (hk : c.kd = 4) (hB : B ≤ w.heap.size) : Calls Try.prog 35 #[.pointer (some ⟨g, o, none⟩), .int .i64 c.cap, .int .i64 call, va] w (Dod w B g o L v p (chaV c call a)) := by
  obtain ⟨h0, h2, h3⟩ := h.cells
  have hvm := h.ok.vm
  have hc16 := h.ok.c16
  have hvn : c.vs.length ≤ 16 := by omega
  have hnl := Nl.of_own h.hv (by omega) h.ok.sv
  have HKY : Hid (∀ w' : World, Below w.heap.size w w' → call = 1 ∨ call = 4 → Calls Try.prog 50 #[.pointer (some ⟨g, o, none⟩), .int .i64 c.cap, .int .i64 call, .int .i64 (nth a 0), .int .i64 (lb c.vs (nth a 0) : Int), .bool (thB c.vs (nth a 0))] w' (Dod w' B g o L v p (chaV c call a))) := fun w' hb hc => keys_any call (h.later hb) ha.w64 hc hk (Nat.le_trans hB hb.size)
  obtain ⟨a1, k1, rfl⟩ := own_slice h.hv
  obtain ⟨_, hb, hc⟩ := nl_cells hnl
  obtain ⟨a2, c2, rfl⟩ := nl_slice ha
  obtain ⟨_, hal, hca⟩ := nl_cells ha
  have H : Hid (ShAt w B g o L c (.slice a1 c.vs.length k1) p) := h
  have hgl := heap_lt h.hg
  clear h h0 h3 ha hk
  rcases ar4_cases h1 with ⟨hn, hq⟩ | ⟨hn, hq⟩
  · rcases hq with rfl | rfl
    · go_enter Try.func35, Try.ntmps35
      go_wp2_with fail
      go_ret2
      exact Dod.same H.out (Below.refl _ _) ((c.vs.length : Int), 0)
    · by_cases hz : c.vs.length = 0
      · have h2' : w.cell? ⟨g, o + 1, none⟩ = some (.slice a1 0 k1) := hz ▸ h2
        have HV : Hid (chaV c 7 a = ((0, 1), c)) := by
          unfold chaV keyV
          rw [Hid, if_neg (by decide), if_pos rfl, if_pos hz.symm]
        rw [HV.out]
        clear h2 hz hvn hvm hc16 hc hca
        go_enter Try.func35, Try.ntmps35
        go_wp2_with fail
        go_ret2
        exact Dod.same H.out (Below.refl _ _) (0, 1)
      · have HV : Hid (chaV c 7 a = ((nth c.vs 0, 0), c)) := by
          unfold chaV keyV
          rw [Hid, if_neg (by decide), if_pos rfl, if_neg (by omega)]
        rw [HV.out]
        have hd0 : ((c.vs.length : Int) == 0) = false := beq_eq_false_iff_ne.2 (by omega)
        have hposI : (0 : Int) < (c.vs.length : Int) := by omega
        obtain ⟨x, rfl, hxb, hx⟩ := hc 0 (by omega)
        rw [add_zero'] at hx
        clear hc hca hz
        go_enter Try.func35, Try.ntmps35
        go_wp2_with fail
        go_ret2
        exact Dod.same H.out (Below.refl _ _) (nth c.vs 0, 0)
  · have d5 : (call == 5) = false := beq_eq_false_iff_ne.2 (by omega)
    have d7 : (call == 7) = false := beq_eq_false_iff_ne.2 (by omega)
    obtain ⟨y, rfl, hyb, hy⟩ := hca 0 (by omega)
    rw [hn]
    rw [add_zero'] at hy
    have HC : Hid (∀ i, i < c.vs.length → ∃ x, a1 = some x ∧ x.block < w.heap.size ∧ w.cell? (x.add i) = some (.int .i64 (nth c.vs i))) := hc
    clear hc hca h1
    go_enter Try.func35, Try.ntmps35
    go_wp2_with fail
    have HX : Hid (a.length = 1) := hn
    clear hn
    go_loopw [11] (fun kv wr => ∃ j : Nat, j ≤ c.vs.length ∧ kv = .int .i64 (j : Int) ∧ Hid (∀ i, i < j → nth c.vs i < nth a 0) ∧ Below w.heap.size w wr) (fun kv _ => c.vs.length - (intOf kv).toNat)
    case atStart => exact ⟨0, Nat.zero_le _, rfl, fun i hi => absurd hi (by omega), Below.refl _ _⟩
    obtain ⟨j, hj, rfl, HLW, hbel⟩ := hrel
    have HB : Hid (Below w.heap.size w wr) := hbel
    have s2 : wr.cell? ⟨g, o + 1, none⟩ = some (.slice a1 c.vs.length k1) := cell_later hbel (a := ⟨g, o + 1, none⟩) hgl h2
    have sy : wr.cell? y = some (.int .i64 (nth a 0)) := cell_later hbel hyb hy
    clear hbel
    by_cases hlt : j < c.vs.length
    · obtain ⟨x, rfl, hxb, hx⟩ := HC.out j hlt
      have sx : wr.cell? (x.add j) = some (.int .i64 (nth c.vs j)) := cell_later HB.out (by rw [add_block]; exact hxb) hx
      have hld : decide ((j : Int) < (c.vs.length : Int)) = true := by simp; omega
      have hw1 : wrap64 ((j : Int) + 1) = (j : Int) + 1 := Pc.wz hlt (by omega)
      have HM : Hid (c.vs.length - (j + 1) < c.vs.length - j) := Pc.mz _ _ hlt
      by_cases hxk : nth c.vs j < nth a 0
      · have hxd : decide (nth c.vs j < nth a 0) = true := by simpa using hxk
        have HLW2 : Hid (∀ i, i < j + 1 → nth c.vs i < nth a 0) := fun i hi => by
          by_cases e : i = j
          · rw [e]; exact hxk
          · exact HLW.out i (by omega)
        clear hx hxk HLW HC
        go_wp2_with fail
        go_quiet (fail)
        have HB2 : Hid (Below w.heap.size w (wr.drewN nq)) := below_drawn HB.out _
        go_wp2_with fail
        go_roundw
        case rel => exact ⟨j + 1, hlt, by go_num, HLW2.out, HB2.out⟩
        case measure => simpa [intOf] using HM.out
      · have hxd : decide (nth c.vs j < nth a 0) = false := by simpa using hxk
        have HLB : Hid (lb c.vs (nth a 0) = j) := lb_is hj HLW.out (fun _ => by omega)
        clear hw1 HM HLW hx
        go_wp2_with fail
        go_quiet (fail)
        go_wp2_with fail
        obtain ⟨wz, hwz⟩ : ∃ wz, wz = wr.drewN nq := ⟨_, rfl⟩
        rw [← hwz]
        have HBZ : Hid (Below w.heap.size w wz) := by rw [hwz]; exact below_drawn HB.out _
        have z2 : wz.cell? ⟨g, o + 1, none⟩ = some (.slice (some x) c.vs.length k1) := cell_later HBZ.out (a := ⟨g, o + 1, none⟩) hgl h2
        have zy : wz.cell? y = some (.int .i64 (nth a 0)) := cell_later HBZ.out hyb hy
        have zx : wz.cell? (x.add j) = some (.int .i64 (nth c.vs j)) := by rw [hwz]; exact sx
        clear hwz s2 sy sx HB
        by_cases hxe : nth c.vs j = nth a 0
        · have hxd2 : (nth c.vs j == nth a 0) = true := by simpa using hxe
          have HTH : Hid (thB c.vs (nth a 0) = true) := by unfold thB; rw [Hid, HLB.out]; simp [hlt, hxe]
          clear hxd hxk hxe
          go_quiet (fail)
          obtain ⟨wy, hwy⟩ : ∃ wy, wy = wz.drewN nq := ⟨_, rfl⟩
          rw [← hwy]
          have HBY : Hid (Below w.heap.size w wy) := by rw [hwy]; exact below_drawn HBZ.out _
          have y2 : wy.cell? ⟨g, o + 1, none⟩ = some (.slice (some x) c.vs.length k1) := cell_later HBY.out (a := ⟨g, o + 1, none⟩) hgl h2
          have yy : wy.cell? y = some (.int .i64 (nth a 0)) := cell_later HBY.out hyb hy
          have yx : wy.cell? (x.add j) = some (.int .i64 (nth c.vs j)) := by rw [hwy]; exact zx
          clear zx
          clear hwy z2 zy HBZ
          clear wz
          obtain ⟨wz, rfl⟩ : ∃ wz, wz = wy := ⟨_, rfl⟩
          have HBZ := HBY
          clear HBY
          have HKY2 : Hid (call = 1 ∨ call = 4 → Calls Try.prog 50 #[.pointer (some ⟨g, o, none⟩), .int .i64 c.cap, .int .i64 call, .int .i64 (nth a 0), .int .i64 (j : Int), .bool true] wz (Dod wz B g o L (.slice (some x) c.vs.length k1) p (chaV c call a))) := by
            have := HKY.out wz HBZ.out
            rw [HLB.out, HTH.out] at this
            exact this
          clear HKY
          rcases hq with rfl | rfl | rfl | rfl
          · have HK1 : Hid (Calls Try.prog 50 #[.pointer (some ⟨g, o, none⟩), .int .i64 c.cap, .int .i64 1, .int .i64 (nth a 0), .int .i64 (j : Int), .bool true] wz (Dod wz B g o L (.slice (some x) c.vs.length k1) p (chaV c 1 a))) := HKY2.out (Or.inl rfl)
            clear HKY2
            go_wp2_with fail
            refine (HK1.out).mono ?_
            rintro e w5 hdod
            have HD := Dod.behind HBZ.out hdod
            obtain ⟨rfl, _⟩ := hdod
            go_wp2_with fail
            go_ret2
            exact HD
          · have HK1 : Hid (Calls Try.prog 50 #[.pointer (some ⟨g, o, none⟩), .int .i64 c.cap, .int .i64 4, .int .i64 (nth a 0), .int .i64 (j : Int), .bool true] wz (Dod wz B g o L (.slice (some x) c.vs.length k1) p (chaV c 4 a))) := HKY2.out (Or.inr rfl)
            clear HKY2
            go_wp2_with fail
            refine (HK1.out).mono ?_
            rintro e w5 hdod
            have HD := Dod.behind HBZ.out hdod
            obtain ⟨rfl, _⟩ := hdod
            go_wp2_with fail
            go_ret2
            exact HD
          · clear HKY2
            have HV : Hid (chaV c 6 a = ((1, 0), c)) := by
              unfold chaV
              rw [Hid, if_neg (by decide), if_neg (by decide), if_neg (by decide), if_neg (by decide), if_pos rfl, HTH.out]
              rfl
            go_wp2_with fail
            go_ret2
            rw [HV.out]
            exact Dod.same H.out HBZ.out (1, 0)
          · clear HKY2
            have HV : Hid (chaV c 8 a = (keyV c (j + 1), c)) := by
              unfold chaV
              rw [Hid, if_neg (by decide), if_neg (by decide), if_neg (by decide), if_neg (by decide), if_neg (by decide), HTH.out, HLB.out]
              rfl
            have hw1 : wrap64 ((j : Int) + 1) = (j : Int) + 1 := Pc.wz hlt (by omega)
            by_cases hend : j + 1 = c.vs.length
            · have HV2 : Hid (keyV c (j + 1) = (0, 1)) := if_pos (hend)
              have he : ((j : Int) + 1 == (c.vs.length : Int)) = true := by rw [← hend]; simp
              clear hend
              go_wp2_with fail
              go_ret2
              rw [HV.out, HV2.out]
              exact Dod.same H.out HBZ.out (0, 1)
            · have HV2 : Hid (keyV c (j + 1) = (nth c.vs (j + 1), 0)) := if_neg (hend)
              obtain ⟨x', hx', _, hxx⟩ := HC.out (j + 1) (by omega)
              injection hx' with hx'
              subst hx'
              have z5 : wz.cell? ⟨x.block, x.off + (j + 1), none⟩ = some (.int .i64 (nth c.vs (j + 1))) := by
                rw [← add_pos' x (j + 1) (by omega)]
                exact cell_later HBZ.out (by rw [add_block]; exact hxb) hxx
              have he : ((j : Int) + 1 == (c.vs.length : Int)) = false := beq_eq_false_iff_ne.2 (by omega)
              have hl2 : (j : Int) + 1 < (c.vs.length : Int) := by omega
              clear hend hxx
              go_wp2_with fail
              go_ret2
              rw [HV.out, HV2.out]
              exact Dod.same H.out HBZ.out (nth c.vs (j + 1), 0)
        · have hxd2 : (nth c.vs j == nth a 0) = false := by simpa using hxe
          have HTH : Hid (thB c.vs (nth a 0) = false) := by unfold thB; rw [Hid, HLB.out]; simp [hxe]
          clear hxd hxk hxe
          go_quiet (fail)
          obtain ⟨wy, hwy⟩ : ∃ wy, wy = wz.drewN nq := ⟨_, rfl⟩
          rw [← hwy]
          have HBY : Hid (Below w.heap.size w wy) := by rw [hwy]; exact below_drawn HBZ.out _
          have y2 : wy.cell? ⟨g, o + 1, none⟩ = some (.slice (some x) c.vs.length k1) := cell_later HBY.out (a := ⟨g, o + 1, none⟩) hgl h2
          have yy : wy.cell? y = some (.int .i64 (nth a 0)) := cell_later HBY.out hyb hy
          have yx : wy.cell? (x.add j) = some (.int .i64 (nth c.vs j)) := by rw [hwy]; exact zx
          clear zx
          clear hwy z2 zy HBZ
          clear wz
          obtain ⟨wz, rfl⟩ : ∃ wz, wz = wy := ⟨_, rfl⟩
          have HBZ := HBY
          clear HBY
          have HKY2 : Hid (call = 1 ∨ call = 4 → Calls Try.prog 50 #[.pointer (some ⟨g, o, none⟩), .int .i64 c.cap, .int .i64 call, .int .i64 (nth a 0), .int .i64 (j : Int), .bool false] wz (Dod wz B g o L (.slice (some x) c.vs.length k1) p (chaV c call a))) := by
            have := HKY.out wz HBZ.out
            rw [HLB.out, HTH.out] at this
            exact this
          clear HKY
          rcases hq with rfl | rfl | rfl | rfl
          · have HK1 : Hid (Calls Try.prog 50 #[.pointer (some ⟨g, o, none⟩), .int .i64 c.cap, .int .i64 1, .int .i64 (nth a 0), .int .i64 (j : Int), .bool false] wz (Dod wz B g o L (.slice (some x) c.vs.length k1) p (chaV c 1 a))) := HKY2.out (Or.inl rfl)
            clear HKY2
            go_wp2_with fail
            refine (HK1.out).mono ?_
            rintro e w5 hdod
            have HD := Dod.behind HBZ.out hdod
            obtain ⟨rfl, _⟩ := hdod
            go_wp2_with fail
            go_ret2
            exact HD
          · have HK1 : Hid (Calls Try.prog 50 #[.pointer (some ⟨g, o, none⟩), .int .i64 c.cap, .int .i64 4, .int .i64 (nth a 0), .int .i64 (j : Int), .bool false] wz (Dod wz B g o L (.slice (some x) c.vs.length k1) p (chaV c 4 a))) := HKY2.out (Or.inr rfl)
            clear HKY2
            go_wp2_with fail
            refine (HK1.out).mono ?_
            rintro e w5 hdod
            have HD := Dod.behind HBZ.out hdod
            obtain ⟨rfl, _⟩ := hdod
            go_wp2_with fail
            go_ret2
            exact HD
          · clear HKY2
            have HV : Hid (chaV c 6 a = ((0, 0), c)) := by
              unfold chaV
              rw [Hid, if_neg (by decide), if_neg (by decide), if_neg (by decide), if_neg (by decide), if_pos rfl, HTH.out]
              rfl
            go_wp2_with fail
            go_ret2
            rw [HV.out]
            exact Dod.same H.out HBZ.out (0, 0)
          · clear HKY2
            have HV : Hid (chaV c 8 a = (keyV c j, c)) := by
              unfold chaV
              rw [Hid, if_neg (by decide), if_neg (by decide), if_neg (by decide), if_neg (by decide), if_neg (by decide), HTH.out, HLB.out]
              rfl
            have HV2 : Hid (keyV c j = (nth c.vs j, 0)) := if_neg (by omega)
            have he : ((j : Int) == (c.vs.length : Int)) = false := beq_eq_false_iff_ne.2 (by omega)
            go_wp2_with fail
            go_ret2
            rw [HV.out, HV2.out]
            exact Dod.same H.out HBZ.out (nth c.vs j, 0)
    · obtain rfl : j = c.vs.length := by omega
      have hld : decide ((c.vs.length : Int) < (c.vs.length : Int)) = false := by simp
      have HLB : Hid (lb c.vs (nth a 0) = c.vs.length) := lb_is hj HLW.out (fun h => absurd h (Nat.lt_irrefl _))
      have HTH : Hid (thB c.vs (nth a 0) = false) := by unfold thB; rw [Hid, HLB.out]; simp
      clear HLW
      go_wp2_with fail
      go_quiet (fail)
      go_wp2_with fail
      obtain ⟨wz, hwz⟩ : ∃ wz, wz = wr.drewN nq := ⟨_, rfl⟩
      rw [← hwz]
      have HBZ : Hid (Below w.heap.size w wz) := by rw [hwz]; exact below_drawn HB.out _
      have z2 : wz.cell? ⟨g, o + 1, none⟩ = some (.slice a1 c.vs.length k1) := cell_later HBZ.out (a := ⟨g, o + 1, none⟩) hgl h2
      have zy : wz.cell? y = some (.int .i64 (nth a 0)) := cell_later HBZ.out hyb hy
      clear hwz s2 sy HB
      go_quiet (fail)
      obtain ⟨wy, hwy⟩ : ∃ wy, wy = wz.drewN nq := ⟨_, rfl⟩
      rw [← hwy]
      have HBY : Hid (Below w.heap.size w wy) := by rw [hwy]; exact below_drawn HBZ.out _
      have y2 : wy.cell? ⟨g, o + 1, none⟩ = some (.slice a1 c.vs.length k1) := cell_later HBY.out (a := ⟨g, o + 1, none⟩) hgl h2
      have yy : wy.cell? y = some (.int .i64 (nth a 0)) := cell_later HBY.out hyb hy
      clear hwy z2 zy HBZ
      clear wz
      obtain ⟨wz, rfl⟩ : ∃ wz, wz = wy := ⟨_, rfl⟩
      have HBZ := HBY
      clear HBY
      have HKY2 : Hid (call = 1 ∨ call = 4 → Calls Try.prog 50 #[.pointer (some ⟨g, o, none⟩), .int .i64 c.cap, .int .i64 call, .int .i64 (nth a 0), .int .i64 (c.vs.length : Int), .bool false] wz (Dod wz B g o L (.slice a1 c.vs.length k1) p (chaV c call a))) := by
        have := HKY.out wz HBZ.out
        rw [HLB.out, HTH.out] at this
        exact this
      clear HKY
      rcases hq with rfl | rfl | rfl | rfl
      · have HK1 : Hid (Calls Try.prog 50 #[.pointer (some ⟨g, o, none⟩), .int .i64 c.cap, .int .i64 1, .int .i64 (nth a 0), .int .i64 (c.vs.length : Int), .bool false] wz (Dod wz B g o L (.slice a1 c.vs.length k1) p (chaV c 1 a))) := HKY2.out (Or.inl rfl)
        clear HKY2
        go_wp2_with fail
        refine (HK1.out).mono ?_
        rintro e w5 hdod
        have HD := Dod.behind HBZ.out hdod
        obtain ⟨rfl, _⟩ := hdod
        go_wp2_with fail
        go_ret2
        exact HD
      · have HK1 : Hid (Calls Try.prog 50 #[.pointer (some ⟨g, o, none⟩), .int .i64 c.cap, .int .i64 4, .int .i64 (nth a 0), .int .i64 (c.vs.length : Int), .bool false] wz (Dod wz B g o L (.slice a1 c.vs.length k1) p (chaV c 4 a))) := HKY2.out (Or.inr rfl)
        clear HKY2
        go_wp2_with fail
        refine (HK1.out).mono ?_
        rintro e w5 hdod
        have HD := Dod.behind HBZ.out hdod
        obtain ⟨rfl, _⟩ := hdod
        go_wp2_with fail
        go_ret2
        exact HD
      · clear HKY2
        have HV : Hid (chaV c 6 a = ((0, 0), c)) := by
          unfold chaV
          rw [Hid, if_neg (by decide), if_neg (by decide), if_neg (by decide), if_neg (by decide), if_pos rfl, HTH.out]
          rfl
        go_wp2_with fail
        go_ret2
        rw [HV.out]
        exact Dod.same H.out HBZ.out (0, 0)
      · clear HKY2
        have HV : Hid (chaV c 8 a = (keyV c c.vs.length, c)) := by
          unfold chaV
          rw [Hid, if_neg (by decide), if_neg (by decide), if_neg (by decide), if_neg (by decide), if_neg (by decide), HTH.out, HLB.out]
          rfl
        have HV2 : Hid (keyV c c.vs.length = (0, 1)) := if_pos (rfl)

        go_wp2_with fail
        go_ret2
        rw [HV.out, HV2.out]
        exact Dod.same H.out HBZ.out (0, 1)
end Go.Proofs.Ytgbmnngmfcneaaa.Pl
