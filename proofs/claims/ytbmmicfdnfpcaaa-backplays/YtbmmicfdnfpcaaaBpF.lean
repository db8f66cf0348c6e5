/- The document's machine of layer 11: Step, where it looks back. -/
import Derived.Test.YtbmmicfdnfpcaaaBpE
import Derived.Test.YtbmmicfdnfpcaaaBpB
namespace Go.Proofs.Ytbmmicfdnfpcaaa
open Go.ChangeShapes Go.WideShapes Go.ChangeAt Go.RowKit
attribute [local go_sem ↓] Go.wp_at_zero Go.wp_at_succ

theorem info_i6411 : (Try.prog.info? 2).map (fun i => (i.zero, i.size, i.bytes)) = some (some (.int .i64 0), 1, 8) := by kernel_rfl
theorem numD_app (l : List Int) (z : Int) : numD (l ++ [z]) = numD l ++ [.int .i64 z] := by simp [numD]
theorem dl_end {w X w1 : World} {base Y gg cap' n : Nat} {P : Bp} {mu : Bool} {x : Dc} {G : List Nat} {lv kv : Value} {z : Int} (h : DM' w base Y P mu x G lv kv) (kX : Keep [] w X) (hn : x.l.length = n)
    (hown1 : w1.ownsRow base 2 1 (.slice (some ⟨gg, 0, none⟩) (n + 1) cap') (n + 1) (numD x.l ++ [.int .i64 z])) (hgrow : X.grownBy w1 kv.ownBlock) (hat : kv.ownBlock = some gg ∨ w.heap.size ≤ gg) :
    ∃ G', DM (w1.setCell ⟨Y, 13, none⟩ (.slice (some ⟨gg, 0, none⟩) (n + 1) cap')) base Y P mu ⟨x.n, x.l ++ [z], x.sn⟩ G' ∧ Next G G' w (w1.setCell ⟨Y, 13, none⟩ (.slice (some ⟨gg, 0, none⟩) (n + 1) cap')) := by
  have k0 : Keep kv.ownBlock.toList w w1 := (kX.mono (fun b hb => by simp at hb)).grown hgrow (fun b hb => Or.inl (by rw [hb]; simp))
  have hm1 : DRaw w1 Y (P.s : Int) mu P.st lv P.sg (x.n : Int) kv x.sn := h.m.keep k0 (fun hm => own_ne h.ownL h.m (by decide) (by simpa using hm))
  have hW1 : w1.ownsRow base 36 2 lv P.W.length (wtC P.W) := own_keep h.ownW k0 (fun b hb hm => own_apart h.ownW h.ownL (by decide) b hb (by simpa using hm))
  have hg1 : (Value.slice (some ⟨gg, 0, none⟩) (n + 1) cap').ownBlock ≠ some Y := own_ne hown1 hm1 (by decide)
  have kset : Keep [Y] w1 (w1.setCell ⟨Y, 13, none⟩ (.slice (some ⟨gg, 0, none⟩) (n + 1) cap')) := (Keep.refl _ _).setCell _ _ (Or.inl (by simp))
  refine ⟨_, ⟨lv, .slice (some ⟨gg, 0, none⟩) (n + 1) cap', hm1.set13 _, ?_, ?_, rfl, h.bY⟩, ?_, ?_⟩
  · exact own_keep hW1 kset (fun b hb hm => by simp at hm; subst hm; exact own_ne hW1 hm1 (by decide) hb)
  · simp only
    rw [numD_app, List.length_append, hn]
    exact own_keep hown1 kset (fun b hb hm => by simp at hm; subst hm; exact hg1 hb)
  · rw [h.G]
    exact (k0.mono (fun b hb => by simp at hb ⊢; exact Or.inr (Or.inr hb))).trans kset (fun b hb => by simp at hb; subst hb; exact Or.inl (by simp))
  · intro b hb
    rw [h.G]
    simp only [List.mem_cons, List.mem_append, Option.mem_toList] at hb ⊢
    rcases hb with rfl | hb | hb
    · simp
    · exact Or.inl (Or.inr (Or.inl hb))
    · have hb' : gg = b := by simpa [Value.ownBlock] using hb
      subst hb'
      rcases hat with e | e
      · exact Or.inl (Or.inr (Or.inr e))
      · exact Or.inr e
theorem lo_row {w w1 : World} {base : Nat} {c r : Nat} {L : List Ac} {K K' : List Nat} {q : Value} {o : Obj} {B : Nat} (hr : RefAt w base q c r L K) (hB : w.heap.size ≤ B) {w2 : World} (h : w2.heap[B]? = some o) (hn : Next K K' w2 w1) : w1.heap[B]? = some o := by
  rw [hn.1.block _ (heap_lt h) (fun e => by have := (hr.lt _ e).2; omega)]
  exact h
set_option maxRecDepth 100000 in
set_option maxHeartbeats 6400000 in
theorem dstep_wait {w : World} {base : Nat} {q : Value} {c r : Nat} {L : List Ac} {K : List Nat} {Y : Nat} {P : Bp} {mu : Bool} {x : Dc} {G : List Nat} {th kn me hd0 : Bool} {ls : Int} {la : Ad} (h : DJ w base q c r L K Y P mu x G) (hp : BpOk P) (hb : base ≤ w.heap.size) (hL : L.length < 3298534883328) (hg : goD c r P x = true) (hrs : r = P.s) (hn : x.n = 9) (hwl : ∀ v ∈ x.l, W64 v) (hlen : x.l.length ≤ 9 * P.s) (hlo : lkD P mu x.l = ⟨th, kn, me, hd0, ls, la⟩) (hth : th = false) (had : isAd c r la = true) (hv : W64 (wordOf L la)) (hwt : (hd0 && !overV (wordOf L la) ls && (me || !laidV (wordOf L la) ls)) = true) (t : Int) : DDoes w base q c r K Y P mu G t 1 (loadL c r L t la) x := by
  have HOV : Hid (∀ w', Below w.heap.size w w' → Calls Try.prog 33 #[.pointer (some ⟨Y, 0, none⟩)] w' fun e w'' => e = .returned (.bool false) ∧ Below w'.heap.size w' w'') := fun w' hb => by
    obtain ⟨lv, kv, hd⟩ := (h.below hb).dm
    have := dover_any hd hp.len
    rw [decide_eq_false (goD_iff.mp hg).1] at this
    exact this
  have HLA : Hid (∀ w', Below w.heap.size w w' → Calls Try.prog 34 #[.pointer (some ⟨Y, 0, none⟩), q] w' fun e w'' => e = .returned (.bool false) ∧ Below w'.heap.size w' w'') := fun w' hb => by
    obtain ⟨lv, kv, hd⟩ := (h.below hb).dm
    have := dlacks_any hd (h.below hb).ref hp.len
    rw [(goD_iff.mp hg).2, Bool.not_true] at this
    exact this
  have HSL : Hid (∀ w, Calls Try.prog 35 #[.int .i64 P.st, .int .i64 (P.s : Int)] w fun e w' => e = .returned (.int .i64 (slotV P.st P.s)) ∧ w' = w) := fun w => rslot_any P.st P.s w
  have HJW : Hid (∀ w', Below w.heap.size w w' → DJ w' base q c r L K Y P mu x G) := fun w' hb => h.below hb
  have hbd := slotB_bd hp P.st
  have HBG : Hid (1 ≤ P.st ∧ P.st ≤ 1099511627776 ∧ 1 ≤ P.s ∧ P.s ≤ 16 ∧ P.W.length ≤ 24) := ⟨hp.st1, hp.st2, hp.s1, hp.s16, hp.len⟩
  have HLO : Hid (∀ w', Below w.heap.size w w' → Calls Try.prog 36 #[.pointer (some ⟨Y, 0, none⟩)] w' fun e w'' => e = .returned (.agg (loC (lkD P mu x.l))) ∧ Below w'.heap.size w' w'') := fun w' hbw => by
    obtain ⟨lv, kv, hd⟩ := (h.below hbw).dm
    exact looks_any hd hp hwl hlen
  have HLD : Hid (∀ w', Below w.heap.size w w' → Calls Try.prog 37 #[q, .int .i64 t, .agg #[.int .i64 la.k, .int .i64 la.i, .int .i64 la.j]] w' fun e w'' => e = .returned (.tuple #[.int .i64 (wordOf L la), .int .i64 0]) ∧ ∃ K', DJ w'' base q c r (loadL c r L t la) K' Y P mu x G ∧ Next K K' w' w'') := fun w' hbw => dj_load (h.below hbw) (Nat.le_trans hb hbw.size) hL t _ had
  have HOR : Hid (∀ st w, Calls Try.prog 38 #[.int .i64 (wordOf L la), .int .i64 st] w fun e w' => e = .returned (.bool (overV (wordOf L la) st)) ∧ w' = w) := fun st w => rover_any _ st hv.1 hv.2 w
  have HLR : Hid (∀ st w, Calls Try.prog 39 #[.int .i64 (wordOf L la), .int .i64 st] w fun e w' => e = .returned (.bool (laidV (wordOf L la) st)) ∧ w' = w) := fun st w => rlaid_any _ st hv.1 hv.2 w
  have HYC : Hid (∀ w', Below w.heap.size w w' → w'.cell? ⟨Y, 0, none⟩ = some (.int .i64 (P.s : Int)) ∧ w'.cell? ⟨Y, 2, none⟩ = some (.int .i64 P.st)) := dj_yc h
  have HNC : Hid (∀ w', Below w.heap.size w w' → w'.cell? ⟨Y, 12, none⟩ = some (.int .i64 9)) := fun w' hbw => by
    obtain ⟨lv, kv, hd⟩ := (h.below hbw).dm
    have h12 := hd.m.cells.2.2.2.2.1
    rw [hn] at h12
    exact h12
  have HRF : Hid (∀ (w1 w2 : World) (K1 : List Nat) (B : Nat) (o : Obj), w.heap.size ≤ B → w2.heap[B]? = some o → Next K K1 w2 w1 → w1.heap[B]? = some o) := fun w1 w2 K1 B o h1 h2 h3 => lo_row h.ref h1 h2 h3
  obtain ⟨i0, hi, hz0, hz1, hz2⟩ := info_parts info_i6411
  have HLE : Hid (x.l.length ≤ 144) := by have := hp.s16; rw [Hid]; omega
  rw [hlo] at HLO
  unfold loC at HLO
  simp only at HLO
  subst hth
  obtain ⟨R, rfl⟩ := h.ref.ptr
  unfold DDoes
  have HOS : Hid (∀ w, Calls Try.prog 38 #[.int .i64 (wordOf L la), .int .i64 ls] w fun e w' => e = .returned (.bool (overV (wordOf L la) ls)) ∧ w' = w) := HOR.out ls
  have HLS : Hid (∀ w, Calls Try.prog 39 #[.int .i64 (wordOf L la), .int .i64 ls] w fun e w' => e = .returned (.bool (laidV (wordOf L la) ls)) ∧ w' = w) := HLR.out ls
  clear HOR HLR
  have hcs : (hd0 = true ∧ overV (wordOf L la) ls = false ∧ me = true) ∨ (hd0 = true ∧ overV (wordOf L la) ls = false ∧ me = false ∧ laidV (wordOf L la) ls = false) := by
    revert hwt
    cases hd0 <;> cases overV (wordOf L la) ls <;> cases me <;> cases laidV (wordOf L la) ls <;> simp
  obtain ⟨ak, ai, aj⟩ := la
  simp only at HLO HLD
  generalize overV (wordOf L ⟨ak, ai, aj⟩) ls = ov at *
  generalize laidV (wordOf L ⟨ak, ai, aj⟩) ls = ld at *
  generalize wordOf L ⟨ak, ai, aj⟩ = v at *
  generalize loadL c r L t ⟨ak, ai, aj⟩ = L' at *
  generalize slotV P.st P.s = sl at *
  clear h hp hg hbd hrs hn hwl hlen hlo had hv hwt hi hz0 hz1 hz2
  rcases hcs with ⟨rfl, rfl, rfl⟩ | ⟨rfl, rfl, rfl, rfl⟩
  · go_enter Try.func16, Try.ntmps16
    go_wp2_with fail
    refine (HOV.out _ (Below.refl _ _)).mono ?_
    rintro e z1 ⟨rfl, hb1⟩
    have HB1 : Hid (Below w.heap.size w z1) := hb1
    clear hb1
    go_wp2_with fail
    refine (HLA.out _ HB1.out).mono ?_
    rintro e z2 ⟨rfl, hb2⟩
    have HB2 : Hid (Below w.heap.size w z2) := below_then HB1.out hb2
    clear hb2 HB1 HOV HLA
    obtain ⟨y0, y2⟩ := HYC.out _ HB2.out
    go_wp2_with fail
    go_quiet ((go_at_call 35; refine Calls.quiet_of_same (HSL.out _)))
    obtain ⟨z3, hz3⟩ : ∃ z3, z3 = z2.drewN nq := ⟨_, rfl⟩
    rw [← hz3]
    have HB3 : Hid (Below w.heap.size w z3) := by rw [Hid, hz3]; exact below_drawn HB2.out _
    clear hz3 HB2 y0 y2 HYC
    have y12 := HNC.out _ HB3.out
    go_wp2_with fail
    refine (HLO.out _ HB3.out).mono ?_
    rintro e z4 ⟨rfl, hb4⟩
    have HB4 : Hid (Below w.heap.size w (z4.alloc (.cells #[.bool false, .bool kn, .bool true, .bool true, .int .i64 ls, .int .i64 ak, .int .i64 ai, .int .i64 aj] 98))) := below_alloc (below_then HB3.out hb4) _
    have HS4 : Hid (w.heap.size ≤ z4.heap.size) := Nat.le_trans HB3.out.size hb4.size
    clear hb4 y12
    go_wp2_with fail
    refine (HLD.out _ HB4.out).mono ?_
    rintro e z5 ⟨rfl, K5, h5, hn5⟩
    have HJ5 : Hid (DJ z5 base (.pointer (some ⟨R, 0, none⟩)) c r L' K5 Y P mu x G) := h5
    have HN5 : Hid (Next (G ++ K) (G ++ K5) w z5) := (Next.of_below HB4.out (G ++ K)).trans (hn5.right (F := G))
    have HP5 : Hid (z5.heap[z4.heap.size]? = some (.cells #[.bool false, .bool kn, .bool true, .bool true, .int .i64 ls, .int .i64 ak, .int .i64 ai, .int .i64 aj] 98 (0, 0))) := HRF.out _ _ _ _ _ HS4.out (heap_alloc_new _ _) hn5
    clear h5 hn5
    have p2 : z5.cell? ⟨z4.heap.size, 2, none⟩ = some (.bool true) := by rw [cell_at HP5.out]; rfl
    have p3 : z5.cell? ⟨z4.heap.size, 3, none⟩ = some (.bool true) := by rw [cell_at HP5.out]; rfl
    have p4 : z5.cell? ⟨z4.heap.size, 4, none⟩ = some (.int .i64 ls) := by rw [cell_at HP5.out]; rfl
    go_wp2_with fail
    refine (HOS.out _).mono ?_
    rintro e z6 ⟨rfl, h6⟩
    obtain rfl : z5 = z6 := h6.symm
    go_wp2_with fail
    refine (HLS.out _).mono ?_
    rintro e z7 ⟨rfl, h7⟩
    obtain rfl : z5 = z7 := h7.symm
    go_wp2
    go_ret
    exact ⟨rfl, K5, G, HJ5.out, HN5.out⟩
  · go_enter Try.func16, Try.ntmps16
    go_wp2_with fail
    refine (HOV.out _ (Below.refl _ _)).mono ?_
    rintro e z1 ⟨rfl, hb1⟩
    have HB1 : Hid (Below w.heap.size w z1) := hb1
    clear hb1
    go_wp2_with fail
    refine (HLA.out _ HB1.out).mono ?_
    rintro e z2 ⟨rfl, hb2⟩
    have HB2 : Hid (Below w.heap.size w z2) := below_then HB1.out hb2
    clear hb2 HB1 HOV HLA
    obtain ⟨y0, y2⟩ := HYC.out _ HB2.out
    go_wp2_with fail
    go_quiet ((go_at_call 35; refine Calls.quiet_of_same (HSL.out _)))
    obtain ⟨z3, hz3⟩ : ∃ z3, z3 = z2.drewN nq := ⟨_, rfl⟩
    rw [← hz3]
    have HB3 : Hid (Below w.heap.size w z3) := by rw [Hid, hz3]; exact below_drawn HB2.out _
    clear hz3 HB2 y0 y2 HYC
    have y12 := HNC.out _ HB3.out
    go_wp2_with fail
    refine (HLO.out _ HB3.out).mono ?_
    rintro e z4 ⟨rfl, hb4⟩
    have HB4 : Hid (Below w.heap.size w (z4.alloc (.cells #[.bool false, .bool kn, .bool false, .bool true, .int .i64 ls, .int .i64 ak, .int .i64 ai, .int .i64 aj] 98))) := below_alloc (below_then HB3.out hb4) _
    have HS4 : Hid (w.heap.size ≤ z4.heap.size) := Nat.le_trans HB3.out.size hb4.size
    clear hb4 y12
    go_wp2_with fail
    refine (HLD.out _ HB4.out).mono ?_
    rintro e z5 ⟨rfl, K5, h5, hn5⟩
    have HJ5 : Hid (DJ z5 base (.pointer (some ⟨R, 0, none⟩)) c r L' K5 Y P mu x G) := h5
    have HN5 : Hid (Next (G ++ K) (G ++ K5) w z5) := (Next.of_below HB4.out (G ++ K)).trans (hn5.right (F := G))
    have HP5 : Hid (z5.heap[z4.heap.size]? = some (.cells #[.bool false, .bool kn, .bool false, .bool true, .int .i64 ls, .int .i64 ak, .int .i64 ai, .int .i64 aj] 98 (0, 0))) := HRF.out _ _ _ _ _ HS4.out (heap_alloc_new _ _) hn5
    clear h5 hn5
    have p2 : z5.cell? ⟨z4.heap.size, 2, none⟩ = some (.bool false) := by rw [cell_at HP5.out]; rfl
    have p3 : z5.cell? ⟨z4.heap.size, 3, none⟩ = some (.bool true) := by rw [cell_at HP5.out]; rfl
    have p4 : z5.cell? ⟨z4.heap.size, 4, none⟩ = some (.int .i64 ls) := by rw [cell_at HP5.out]; rfl
    go_wp2_with fail
    refine (HOS.out _).mono ?_
    rintro e z6 ⟨rfl, h6⟩
    obtain rfl : z5 = z6 := h6.symm
    go_wp2_with fail
    refine (HLS.out _).mono ?_
    rintro e z7 ⟨rfl, h7⟩
    obtain rfl : z5 = z7 := h7.symm
    go_wp2
    go_ret
    exact ⟨rfl, K5, G, HJ5.out, HN5.out⟩
set_option maxRecDepth 100000 in
set_option maxHeartbeats 6400000 in
theorem dstep_on {w : World} {base : Nat} {q : Value} {c r : Nat} {L : List Ac} {K : List Nat} {Y : Nat} {P : Bp} {mu : Bool} {x : Dc} {G : List Nat} {th kn me hd0 : Bool} {ls : Int} {la : Ad} (h : DJ w base q c r L K Y P mu x G) (hp : BpOk P) (hb : base ≤ w.heap.size) (hL : L.length < 3298534883328) (hg : goD c r P x = true) (hrs : r = P.s) (hn : x.n = 9) (hwl : ∀ v ∈ x.l, W64 v) (hlen : x.l.length ≤ 9 * P.s) (hlo : lkD P mu x.l = ⟨th, kn, me, hd0, ls, la⟩) (hth : th = false) (had : isAd c r la = true) (hv : W64 (wordOf L la)) (hwt : (hd0 && !overV (wordOf L la) ls && (me || !laidV (wordOf L la) ls)) = false) (t : Int) : DDoes w base q c r K Y P mu G t 2 (loadL c r L t la) ⟨x.n, x.l ++ [wordOf L la], x.sn⟩ := by
  have HOV : Hid (∀ w', Below w.heap.size w w' → Calls Try.prog 33 #[.pointer (some ⟨Y, 0, none⟩)] w' fun e w'' => e = .returned (.bool false) ∧ Below w'.heap.size w' w'') := fun w' hb => by
    obtain ⟨lv, kv, hd⟩ := (h.below hb).dm
    have := dover_any hd hp.len
    rw [decide_eq_false (goD_iff.mp hg).1] at this
    exact this
  have HLA : Hid (∀ w', Below w.heap.size w w' → Calls Try.prog 34 #[.pointer (some ⟨Y, 0, none⟩), q] w' fun e w'' => e = .returned (.bool false) ∧ Below w'.heap.size w' w'') := fun w' hb => by
    obtain ⟨lv, kv, hd⟩ := (h.below hb).dm
    have := dlacks_any hd (h.below hb).ref hp.len
    rw [(goD_iff.mp hg).2, Bool.not_true] at this
    exact this
  have HSL : Hid (∀ w, Calls Try.prog 35 #[.int .i64 P.st, .int .i64 (P.s : Int)] w fun e w' => e = .returned (.int .i64 (slotV P.st P.s)) ∧ w' = w) := fun w => rslot_any P.st P.s w
  have HJW : Hid (∀ w', Below w.heap.size w w' → DJ w' base q c r L K Y P mu x G) := fun w' hb => h.below hb
  have hbd := slotB_bd hp P.st
  have HBG : Hid (1 ≤ P.st ∧ P.st ≤ 1099511627776 ∧ 1 ≤ P.s ∧ P.s ≤ 16 ∧ P.W.length ≤ 24) := ⟨hp.st1, hp.st2, hp.s1, hp.s16, hp.len⟩
  have HLO : Hid (∀ w', Below w.heap.size w w' → Calls Try.prog 36 #[.pointer (some ⟨Y, 0, none⟩)] w' fun e w'' => e = .returned (.agg (loC (lkD P mu x.l))) ∧ Below w'.heap.size w' w'') := fun w' hbw => by
    obtain ⟨lv, kv, hd⟩ := (h.below hbw).dm
    exact looks_any hd hp hwl hlen
  have HLD : Hid (∀ w', Below w.heap.size w w' → Calls Try.prog 37 #[q, .int .i64 t, .agg #[.int .i64 la.k, .int .i64 la.i, .int .i64 la.j]] w' fun e w'' => e = .returned (.tuple #[.int .i64 (wordOf L la), .int .i64 0]) ∧ ∃ K', DJ w'' base q c r (loadL c r L t la) K' Y P mu x G ∧ Next K K' w' w'') := fun w' hbw => dj_load (h.below hbw) (Nat.le_trans hb hbw.size) hL t _ had
  have HOR : Hid (∀ st w, Calls Try.prog 38 #[.int .i64 (wordOf L la), .int .i64 st] w fun e w' => e = .returned (.bool (overV (wordOf L la) st)) ∧ w' = w) := fun st w => rover_any _ st hv.1 hv.2 w
  have HLR : Hid (∀ st w, Calls Try.prog 39 #[.int .i64 (wordOf L la), .int .i64 st] w fun e w' => e = .returned (.bool (laidV (wordOf L la) st)) ∧ w' = w) := fun st w => rlaid_any _ st hv.1 hv.2 w
  have HYC : Hid (∀ w', Below w.heap.size w w' → w'.cell? ⟨Y, 0, none⟩ = some (.int .i64 (P.s : Int)) ∧ w'.cell? ⟨Y, 2, none⟩ = some (.int .i64 P.st)) := dj_yc h
  have HNC : Hid (∀ w', Below w.heap.size w w' → w'.cell? ⟨Y, 12, none⟩ = some (.int .i64 9)) := fun w' hbw => by
    obtain ⟨lv, kv, hd⟩ := (h.below hbw).dm
    have h12 := hd.m.cells.2.2.2.2.1
    rw [hn] at h12
    exact h12
  have HRF : Hid (∀ (w1 w2 : World) (K1 : List Nat) (B : Nat) (o : Obj), w.heap.size ≤ B → w2.heap[B]? = some o → Next K K1 w2 w1 → w1.heap[B]? = some o) := fun w1 w2 K1 B o h1 h2 h3 => lo_row h.ref h1 h2 h3
  obtain ⟨i0, hi, hz0, hz1, hz2⟩ := info_parts info_i6411
  have HLE : Hid (x.l.length ≤ 144) := by have := hp.s16; rw [Hid]; omega
  rw [hlo] at HLO
  unfold loC at HLO
  simp only at HLO
  subst hth
  obtain ⟨R, rfl⟩ := h.ref.ptr
  unfold DDoes
  have HOS : Hid (∀ w, Calls Try.prog 38 #[.int .i64 (wordOf L la), .int .i64 ls] w fun e w' => e = .returned (.bool (overV (wordOf L la) ls)) ∧ w' = w) := HOR.out ls
  have HLS : Hid (∀ w, Calls Try.prog 39 #[.int .i64 (wordOf L la), .int .i64 ls] w fun e w' => e = .returned (.bool (laidV (wordOf L la) ls)) ∧ w' = w) := HLR.out ls
  clear HOR HLR
  have hcs : (hd0 = false) ∨ (hd0 = true ∧ overV (wordOf L la) ls = true) ∨ (hd0 = true ∧ overV (wordOf L la) ls = false ∧ me = false ∧ laidV (wordOf L la) ls = true) := by
    revert hwt
    cases hd0 <;> cases overV (wordOf L la) ls <;> cases me <;> cases laidV (wordOf L la) ls <;> simp
  have HBB : Hid (base ≤ w.heap.size) := hb
  obtain ⟨nl, HNL⟩ : ∃ nl, Hid (x.l.length = nl) := ⟨_, rfl⟩
  rw [HNL.out] at HLE
  obtain ⟨ak, ai, aj⟩ := la
  simp only at HLO HLD
  generalize overV (wordOf L ⟨ak, ai, aj⟩) ls = ov at *
  generalize laidV (wordOf L ⟨ak, ai, aj⟩) ls = ld at *
  generalize wordOf L ⟨ak, ai, aj⟩ = v at *
  generalize loadL c r L t ⟨ak, ai, aj⟩ = L' at *
  generalize slotV P.st P.s = sl at *
  clear h hp hg hbd hrs hn hwl hlen hlo had hv hwt
  rcases hcs with rfl | ⟨rfl, rfl⟩ | ⟨rfl, rfl, rfl, rfl⟩
  · go_enter Try.func16, Try.ntmps16
    go_wp2_with fail
    refine (HOV.out _ (Below.refl _ _)).mono ?_
    rintro e z1 ⟨rfl, hb1⟩
    have HB1 : Hid (Below w.heap.size w z1) := hb1
    clear hb1
    go_wp2_with fail
    refine (HLA.out _ HB1.out).mono ?_
    rintro e z2 ⟨rfl, hb2⟩
    have HB2 : Hid (Below w.heap.size w z2) := below_then HB1.out hb2
    clear hb2 HB1 HOV HLA
    obtain ⟨y0, y2⟩ := HYC.out _ HB2.out
    go_wp2_with fail
    go_quiet ((go_at_call 35; refine Calls.quiet_of_same (HSL.out _)))
    obtain ⟨z3, hz3⟩ : ∃ z3, z3 = z2.drewN nq := ⟨_, rfl⟩
    rw [← hz3]
    have HB3 : Hid (Below w.heap.size w z3) := by rw [Hid, hz3]; exact below_drawn HB2.out _
    clear hz3 HB2 y0 y2 HYC
    have y12 := HNC.out _ HB3.out
    go_wp2_with fail
    refine (HLO.out _ HB3.out).mono ?_
    rintro e z4 ⟨rfl, hb4⟩
    have HB4 : Hid (Below w.heap.size w (z4.alloc (.cells #[.bool false, .bool kn, .bool me, .bool false, .int .i64 ls, .int .i64 ak, .int .i64 ai, .int .i64 aj] 98))) := below_alloc (below_then HB3.out hb4) _
    have HS4 : Hid (w.heap.size ≤ z4.heap.size) := Nat.le_trans HB3.out.size hb4.size
    clear hb4 y12
    go_wp2_with fail
    refine (HLD.out _ HB4.out).mono ?_
    rintro e z5 ⟨rfl, K5, h5, hn5⟩
    have HJ5 : Hid (DJ z5 base (.pointer (some ⟨R, 0, none⟩)) c r L' K5 Y P mu x G) := h5
    have HN5 : Hid (Next (G ++ K) (G ++ K5) w z5) := (Next.of_below HB4.out (G ++ K)).trans (hn5.right (F := G))
    have HP5 : Hid (z5.heap[z4.heap.size]? = some (.cells #[.bool false, .bool kn, .bool me, .bool false, .int .i64 ls, .int .i64 ak, .int .i64 ai, .int .i64 aj] 98 (0, 0))) := HRF.out _ _ _ _ _ HS4.out (heap_alloc_new _ _) hn5
    clear h5 hn5
    have p2 : z5.cell? ⟨z4.heap.size, 2, none⟩ = some (.bool me) := by rw [cell_at HP5.out]; rfl
    have p3 : z5.cell? ⟨z4.heap.size, 3, none⟩ = some (.bool false) := by rw [cell_at HP5.out]; rfl
    have p4 : z5.cell? ⟨z4.heap.size, 4, none⟩ = some (.int .i64 ls) := by rw [cell_at HP5.out]; rfl
    go_wp2_with fail
    refine (HOS.out _).mono ?_
    rintro e z6 ⟨rfl, h6⟩
    obtain rfl : z5 = z6 := h6.symm
    go_wp2_with fail
    refine (HLS.out _).mono ?_
    rintro e z7 ⟨rfl, h7⟩
    obtain rfl : z5 = z7 := h7.symm
    obtain ⟨lv, kv, hdm⟩ := HJ5.out.dm
    have HDM : Hid (DM' z5 base Y P mu x G lv kv) := hdm
    obtain ⟨ka, kcap, rfl⟩ := own_slice hdm.ownL
    clear hdm
    have HOWN : Hid (z5.ownsRow base 2 1 (.slice ka nl kcap) nl (numD x.l)) := by have h := HDM.out.ownL; rw [HNL.out] at h; exact h
    have y13 : z5.cell? ⟨Y, 13, none⟩ = some (.slice ka nl kcap) := by have h := HDM.out.m.cells.2.2.2.2.2.1; rw [HNL.out] at h; exact h
    have yf : z5.frozen? ⟨Y, 13, none⟩ = false := frozen_at HDM.out.m 13
    have hY2 : Y < z5.heap.size := heap_lt HDM.out.m
    have hYv : (Value.slice ka nl kcap).ownBlock ≠ some Y := own_ne HOWN.out HDM.out.m (by decide)
    have hb5 : base ≤ z5.heap.size := Nat.le_trans HBB.out HN5.out.1.size
    have hll : (numD x.l).length = nl := by rw [← HNL.out]; simp [numD]
    have hle := HLE.out
    go_wp2_with (at_builtin; refine list_lies_wide _ rfl _ _ 60 rfl base 2 i0 _ 1 8 Try.underlying60 hi hz0 hz1 hz2 rfl (by decide) _ _ _ rfl (HOWN.out.alloc _) ⟨z5.heap.size, 0, none⟩ 1 1 [.int .i64 v] rfl rfl ?c1a ?c2a (by decide) ?c3a ?c4a ?c5a _ rfl ?_)
    case c1a => exact World.news_of_block (cs := #[.int .i64 v]) (t := 2) (fr := (0, 0)) (heap_alloc_new z5 _)
    case c2a => simp [Value.oneCell']
    case c3a => unfold maxLen; omega
    case c4a => omega
    case c5a => first | omega | (simp; omega)
    intro gg cap' w3 hown1 hgrow hat hlt
    have hs1 : w3.cell? ⟨Y, 13, none⟩ = some (.slice ka nl kcap) := by rw [hgrow.cell_far _ (by simp; omega) (Ne.symm hYv), World.cell?_alloc_past _ _ _ hY2]; exact y13
    have hs2 : w3.frozen? ⟨Y, 13, none⟩ = false := by rw [hgrow.frozen_far _ (by simp; omega) (Ne.symm hYv), World.frozen?_alloc_past _ _ _ hY2]; exact yf
    have HX3 : Hid (∃ G', DM (w3.setCell ⟨Y, 13, none⟩ (.slice (some ⟨gg, 0, none⟩) (nl + 1) cap')) base Y P mu ⟨x.n, x.l ++ [v], x.sn⟩ G' ∧ Next G G' z5 (w3.setCell ⟨Y, 13, none⟩ (.slice (some ⟨gg, 0, none⟩) (nl + 1) cap'))) :=
      dl_end HDM.out ((Keep.refl _ _).alloc _) HNL.out hown1 (by rw [HNL.out]; exact hgrow) (by rw [HNL.out]; rcases hat with e | e; exact Or.inl e; exact Or.inr (by omega))
    clear hown1 hgrow hat hlt y13 yf HOWN p2 p3 p4
    go_wp2_with fail
    generalize w3.setCell ⟨Y, 13, none⟩ (.slice (some ⟨gg, 0, none⟩) (nl + 1) cap') = w4 at *
    clear hs1 hs2
    obtain ⟨G4, hd4, hn4⟩ := HX3.out
    have HE : Hid (DJ w4 base (.pointer (some ⟨R, 0, none⟩)) c r L' K5 Y P mu ⟨x.n, x.l ++ [v], x.sn⟩ G4 ∧ Next (G ++ K) (G4 ++ K5) w w4) := ⟨HJ5.out.onDm hd4 hn4, HN5.out.trans hn4.left⟩
    clear hd4 hn4
    go_wp2
    go_ret
    exact ⟨rfl, K5, G4, HE.out⟩
  · go_enter Try.func16, Try.ntmps16
    go_wp2_with fail
    refine (HOV.out _ (Below.refl _ _)).mono ?_
    rintro e z1 ⟨rfl, hb1⟩
    have HB1 : Hid (Below w.heap.size w z1) := hb1
    clear hb1
    go_wp2_with fail
    refine (HLA.out _ HB1.out).mono ?_
    rintro e z2 ⟨rfl, hb2⟩
    have HB2 : Hid (Below w.heap.size w z2) := below_then HB1.out hb2
    clear hb2 HB1 HOV HLA
    obtain ⟨y0, y2⟩ := HYC.out _ HB2.out
    go_wp2_with fail
    go_quiet ((go_at_call 35; refine Calls.quiet_of_same (HSL.out _)))
    obtain ⟨z3, hz3⟩ : ∃ z3, z3 = z2.drewN nq := ⟨_, rfl⟩
    rw [← hz3]
    have HB3 : Hid (Below w.heap.size w z3) := by rw [Hid, hz3]; exact below_drawn HB2.out _
    clear hz3 HB2 y0 y2 HYC
    have y12 := HNC.out _ HB3.out
    go_wp2_with fail
    refine (HLO.out _ HB3.out).mono ?_
    rintro e z4 ⟨rfl, hb4⟩
    have HB4 : Hid (Below w.heap.size w (z4.alloc (.cells #[.bool false, .bool kn, .bool me, .bool true, .int .i64 ls, .int .i64 ak, .int .i64 ai, .int .i64 aj] 98))) := below_alloc (below_then HB3.out hb4) _
    have HS4 : Hid (w.heap.size ≤ z4.heap.size) := Nat.le_trans HB3.out.size hb4.size
    clear hb4 y12
    go_wp2_with fail
    refine (HLD.out _ HB4.out).mono ?_
    rintro e z5 ⟨rfl, K5, h5, hn5⟩
    have HJ5 : Hid (DJ z5 base (.pointer (some ⟨R, 0, none⟩)) c r L' K5 Y P mu x G) := h5
    have HN5 : Hid (Next (G ++ K) (G ++ K5) w z5) := (Next.of_below HB4.out (G ++ K)).trans (hn5.right (F := G))
    have HP5 : Hid (z5.heap[z4.heap.size]? = some (.cells #[.bool false, .bool kn, .bool me, .bool true, .int .i64 ls, .int .i64 ak, .int .i64 ai, .int .i64 aj] 98 (0, 0))) := HRF.out _ _ _ _ _ HS4.out (heap_alloc_new _ _) hn5
    clear h5 hn5
    have p2 : z5.cell? ⟨z4.heap.size, 2, none⟩ = some (.bool me) := by rw [cell_at HP5.out]; rfl
    have p3 : z5.cell? ⟨z4.heap.size, 3, none⟩ = some (.bool true) := by rw [cell_at HP5.out]; rfl
    have p4 : z5.cell? ⟨z4.heap.size, 4, none⟩ = some (.int .i64 ls) := by rw [cell_at HP5.out]; rfl
    go_wp2_with fail
    refine (HOS.out _).mono ?_
    rintro e z6 ⟨rfl, h6⟩
    obtain rfl : z5 = z6 := h6.symm
    go_wp2_with fail
    refine (HLS.out _).mono ?_
    rintro e z7 ⟨rfl, h7⟩
    obtain rfl : z5 = z7 := h7.symm
    obtain ⟨lv, kv, hdm⟩ := HJ5.out.dm
    have HDM : Hid (DM' z5 base Y P mu x G lv kv) := hdm
    obtain ⟨ka, kcap, rfl⟩ := own_slice hdm.ownL
    clear hdm
    have HOWN : Hid (z5.ownsRow base 2 1 (.slice ka nl kcap) nl (numD x.l)) := by have h := HDM.out.ownL; rw [HNL.out] at h; exact h
    have y13 : z5.cell? ⟨Y, 13, none⟩ = some (.slice ka nl kcap) := by have h := HDM.out.m.cells.2.2.2.2.2.1; rw [HNL.out] at h; exact h
    have yf : z5.frozen? ⟨Y, 13, none⟩ = false := frozen_at HDM.out.m 13
    have hY2 : Y < z5.heap.size := heap_lt HDM.out.m
    have hYv : (Value.slice ka nl kcap).ownBlock ≠ some Y := own_ne HOWN.out HDM.out.m (by decide)
    have hb5 : base ≤ z5.heap.size := Nat.le_trans HBB.out HN5.out.1.size
    have hll : (numD x.l).length = nl := by rw [← HNL.out]; simp [numD]
    have hle := HLE.out
    go_wp2_with (at_builtin; refine list_lies_wide _ rfl _ _ 60 rfl base 2 i0 _ 1 8 Try.underlying60 hi hz0 hz1 hz2 rfl (by decide) _ _ _ rfl (HOWN.out.alloc _) ⟨z5.heap.size, 0, none⟩ 1 1 [.int .i64 v] rfl rfl ?c1b ?c2b (by decide) ?c3b ?c4b ?c5b _ rfl ?_)
    case c1b => exact World.news_of_block (cs := #[.int .i64 v]) (t := 2) (fr := (0, 0)) (heap_alloc_new z5 _)
    case c2b => simp [Value.oneCell']
    case c3b => unfold maxLen; omega
    case c4b => omega
    case c5b => first | omega | (simp; omega)
    intro gg cap' w3 hown1 hgrow hat hlt
    have hs1 : w3.cell? ⟨Y, 13, none⟩ = some (.slice ka nl kcap) := by rw [hgrow.cell_far _ (by simp; omega) (Ne.symm hYv), World.cell?_alloc_past _ _ _ hY2]; exact y13
    have hs2 : w3.frozen? ⟨Y, 13, none⟩ = false := by rw [hgrow.frozen_far _ (by simp; omega) (Ne.symm hYv), World.frozen?_alloc_past _ _ _ hY2]; exact yf
    have HX3 : Hid (∃ G', DM (w3.setCell ⟨Y, 13, none⟩ (.slice (some ⟨gg, 0, none⟩) (nl + 1) cap')) base Y P mu ⟨x.n, x.l ++ [v], x.sn⟩ G' ∧ Next G G' z5 (w3.setCell ⟨Y, 13, none⟩ (.slice (some ⟨gg, 0, none⟩) (nl + 1) cap'))) :=
      dl_end HDM.out ((Keep.refl _ _).alloc _) HNL.out hown1 (by rw [HNL.out]; exact hgrow) (by rw [HNL.out]; rcases hat with e | e; exact Or.inl e; exact Or.inr (by omega))
    clear hown1 hgrow hat hlt y13 yf HOWN p2 p3 p4
    go_wp2_with fail
    generalize w3.setCell ⟨Y, 13, none⟩ (.slice (some ⟨gg, 0, none⟩) (nl + 1) cap') = w4 at *
    clear hs1 hs2
    obtain ⟨G4, hd4, hn4⟩ := HX3.out
    have HE : Hid (DJ w4 base (.pointer (some ⟨R, 0, none⟩)) c r L' K5 Y P mu ⟨x.n, x.l ++ [v], x.sn⟩ G4 ∧ Next (G ++ K) (G4 ++ K5) w w4) := ⟨HJ5.out.onDm hd4 hn4, HN5.out.trans hn4.left⟩
    clear hd4 hn4
    go_wp2
    go_ret
    exact ⟨rfl, K5, G4, HE.out⟩
  · go_enter Try.func16, Try.ntmps16
    go_wp2_with fail
    refine (HOV.out _ (Below.refl _ _)).mono ?_
    rintro e z1 ⟨rfl, hb1⟩
    have HB1 : Hid (Below w.heap.size w z1) := hb1
    clear hb1
    go_wp2_with fail
    refine (HLA.out _ HB1.out).mono ?_
    rintro e z2 ⟨rfl, hb2⟩
    have HB2 : Hid (Below w.heap.size w z2) := below_then HB1.out hb2
    clear hb2 HB1 HOV HLA
    obtain ⟨y0, y2⟩ := HYC.out _ HB2.out
    go_wp2_with fail
    go_quiet ((go_at_call 35; refine Calls.quiet_of_same (HSL.out _)))
    obtain ⟨z3, hz3⟩ : ∃ z3, z3 = z2.drewN nq := ⟨_, rfl⟩
    rw [← hz3]
    have HB3 : Hid (Below w.heap.size w z3) := by rw [Hid, hz3]; exact below_drawn HB2.out _
    clear hz3 HB2 y0 y2 HYC
    have y12 := HNC.out _ HB3.out
    go_wp2_with fail
    refine (HLO.out _ HB3.out).mono ?_
    rintro e z4 ⟨rfl, hb4⟩
    have HB4 : Hid (Below w.heap.size w (z4.alloc (.cells #[.bool false, .bool kn, .bool false, .bool true, .int .i64 ls, .int .i64 ak, .int .i64 ai, .int .i64 aj] 98))) := below_alloc (below_then HB3.out hb4) _
    have HS4 : Hid (w.heap.size ≤ z4.heap.size) := Nat.le_trans HB3.out.size hb4.size
    clear hb4 y12
    go_wp2_with fail
    refine (HLD.out _ HB4.out).mono ?_
    rintro e z5 ⟨rfl, K5, h5, hn5⟩
    have HJ5 : Hid (DJ z5 base (.pointer (some ⟨R, 0, none⟩)) c r L' K5 Y P mu x G) := h5
    have HN5 : Hid (Next (G ++ K) (G ++ K5) w z5) := (Next.of_below HB4.out (G ++ K)).trans (hn5.right (F := G))
    have HP5 : Hid (z5.heap[z4.heap.size]? = some (.cells #[.bool false, .bool kn, .bool false, .bool true, .int .i64 ls, .int .i64 ak, .int .i64 ai, .int .i64 aj] 98 (0, 0))) := HRF.out _ _ _ _ _ HS4.out (heap_alloc_new _ _) hn5
    clear h5 hn5
    have p2 : z5.cell? ⟨z4.heap.size, 2, none⟩ = some (.bool false) := by rw [cell_at HP5.out]; rfl
    have p3 : z5.cell? ⟨z4.heap.size, 3, none⟩ = some (.bool true) := by rw [cell_at HP5.out]; rfl
    have p4 : z5.cell? ⟨z4.heap.size, 4, none⟩ = some (.int .i64 ls) := by rw [cell_at HP5.out]; rfl
    go_wp2_with fail
    refine (HOS.out _).mono ?_
    rintro e z6 ⟨rfl, h6⟩
    obtain rfl : z5 = z6 := h6.symm
    go_wp2_with fail
    refine (HLS.out _).mono ?_
    rintro e z7 ⟨rfl, h7⟩
    obtain rfl : z5 = z7 := h7.symm
    obtain ⟨lv, kv, hdm⟩ := HJ5.out.dm
    have HDM : Hid (DM' z5 base Y P mu x G lv kv) := hdm
    obtain ⟨ka, kcap, rfl⟩ := own_slice hdm.ownL
    clear hdm
    have HOWN : Hid (z5.ownsRow base 2 1 (.slice ka nl kcap) nl (numD x.l)) := by have h := HDM.out.ownL; rw [HNL.out] at h; exact h
    have y13 : z5.cell? ⟨Y, 13, none⟩ = some (.slice ka nl kcap) := by have h := HDM.out.m.cells.2.2.2.2.2.1; rw [HNL.out] at h; exact h
    have yf : z5.frozen? ⟨Y, 13, none⟩ = false := frozen_at HDM.out.m 13
    have hY2 : Y < z5.heap.size := heap_lt HDM.out.m
    have hYv : (Value.slice ka nl kcap).ownBlock ≠ some Y := own_ne HOWN.out HDM.out.m (by decide)
    have hb5 : base ≤ z5.heap.size := Nat.le_trans HBB.out HN5.out.1.size
    have hll : (numD x.l).length = nl := by rw [← HNL.out]; simp [numD]
    have hle := HLE.out
    go_wp2_with (at_builtin; refine list_lies_wide _ rfl _ _ 60 rfl base 2 i0 _ 1 8 Try.underlying60 hi hz0 hz1 hz2 rfl (by decide) _ _ _ rfl (HOWN.out.alloc _) ⟨z5.heap.size, 0, none⟩ 1 1 [.int .i64 v] rfl rfl ?c1c ?c2c (by decide) ?c3c ?c4c ?c5c _ rfl ?_)
    case c1c => exact World.news_of_block (cs := #[.int .i64 v]) (t := 2) (fr := (0, 0)) (heap_alloc_new z5 _)
    case c2c => simp [Value.oneCell']
    case c3c => unfold maxLen; omega
    case c4c => omega
    case c5c => first | omega | (simp; omega)
    intro gg cap' w3 hown1 hgrow hat hlt
    have hs1 : w3.cell? ⟨Y, 13, none⟩ = some (.slice ka nl kcap) := by rw [hgrow.cell_far _ (by simp; omega) (Ne.symm hYv), World.cell?_alloc_past _ _ _ hY2]; exact y13
    have hs2 : w3.frozen? ⟨Y, 13, none⟩ = false := by rw [hgrow.frozen_far _ (by simp; omega) (Ne.symm hYv), World.frozen?_alloc_past _ _ _ hY2]; exact yf
    have HX3 : Hid (∃ G', DM (w3.setCell ⟨Y, 13, none⟩ (.slice (some ⟨gg, 0, none⟩) (nl + 1) cap')) base Y P mu ⟨x.n, x.l ++ [v], x.sn⟩ G' ∧ Next G G' z5 (w3.setCell ⟨Y, 13, none⟩ (.slice (some ⟨gg, 0, none⟩) (nl + 1) cap'))) :=
      dl_end HDM.out ((Keep.refl _ _).alloc _) HNL.out hown1 (by rw [HNL.out]; exact hgrow) (by rw [HNL.out]; rcases hat with e | e; exact Or.inl e; exact Or.inr (by omega))
    clear hown1 hgrow hat hlt y13 yf HOWN p2 p3 p4
    go_wp2_with fail
    generalize w3.setCell ⟨Y, 13, none⟩ (.slice (some ⟨gg, 0, none⟩) (nl + 1) cap') = w4 at *
    clear hs1 hs2
    obtain ⟨G4, hd4, hn4⟩ := HX3.out
    have HE : Hid (DJ w4 base (.pointer (some ⟨R, 0, none⟩)) c r L' K5 Y P mu ⟨x.n, x.l ++ [v], x.sn⟩ G4 ∧ Next (G ++ K) (G4 ++ K5) w w4) := ⟨HJ5.out.onDm hd4 hn4, HN5.out.trans hn4.left⟩
    clear hd4 hn4
    go_wp2
    go_ret
    exact ⟨rfl, K5, G4, HE.out⟩
end Go.Proofs.Ytbmmicfdnfpcaaa
