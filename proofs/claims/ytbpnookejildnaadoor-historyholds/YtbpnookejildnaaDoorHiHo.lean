/- The law of orders that hold. -/
import Derived.Test.YtbpnookejildnaaDoorHiSh
import Derived.Test.YtbpnookejildnaaDoorHiRo
namespace Go.Proofs.YtbpnookejildnaaDoor.Hi
open Go.ChangeShapes Go.WideShapes Go.ChangeAt Go.RowKit
set_option linter.unusedVariables false

theorem rtim_q {w : World} {v vo : Value} {H : List Ev} {o : List Int} (h : EvL w v H) (ho : IL w vo o) : Calls Tryd.prog 15 #[v, vo] w (BoolQ (timelyA H o) w) := by
  refine (rtimely_any h ho).mono ?_
  rintro e w' ⟨hq, hb⟩
  refine ⟨?_, hb⟩
  unfold timelyA
  cases hr : readD H with
  | none =>
    have ha := allMay_none hr
    cases hq with
    | bad _ => rfl
    | arg h1 _ => rw [ha] at h1; cases h1
    | no _ _ h1 _ _ _ _ => rw [ha] at h1; cases h1
    | yes h1 _ _ => rw [ha] at h1; cases h1
  | some p =>
    have ha := allMay_some hr
    have hn := (read_some hr).1.n
    dsimp only
    cases hq with
    | bad h1 => rw [ha] at h1; cases h1
    | arg _ hk => rw [← hn] at hk; rw [hk]; rfl
    | no i k _ hk hi hki hl =>
      rw [← hn] at hk
      rw [if_pos hk]
      have : timelyD (pick p.txs o) = false := by
        cases hb : timelyD (pick p.txs o) with
        | false => rfl
        | true => exact absurd hl ((timely_iff hr h.len (fun e he => (h.ok e he).1) hk).1 hb i hi k hki)
      rw [this]
    | yes _ hk hr2 =>
      rw [← hn] at hk
      rw [if_pos hk, (timely_iff hr h.len (fun e he => (h.ok e he).1) hk).2 hr2]
theorem rleg_q {w : World} {v vo : Value} {H : List Ev} {o : List Int} (h : EvL w v H) (ho : IL w vo o) : Calls Tryd.prog 17 #[v, vo] w (BoolQ (legalA H o) w) := by
  refine (rlegal_any h ho).mono ?_
  rintro e w' ⟨hq, hb⟩
  refine ⟨?_, hb⟩
  unfold legalA
  cases hr : readD H with
  | none =>
    have ha := allMay_none hr
    cases hq with
    | bad _ => rfl
    | arg h1 _ => rw [ha] at h1; cases h1
    | no _ h1 _ _ _ _ => rw [ha] at h1; cases h1
    | yes h1 _ _ => rw [ha] at h1; cases h1
  | some p =>
    have ha := allMay_some hr
    have hn := (read_some hr).1.n
    dsimp only
    cases hq with
    | bad h1 => rw [ha] at h1; cases h1
    | arg _ hk => rw [← hn] at hk; rw [hk]; rfl
    | no i _ hk hi hkd hne =>
      rw [← hn] at hk
      rw [if_pos hk]
      have : legalD (pick p.txs o) = false := by
        cases hb : legalD (pick p.txs o) with
        | false => rfl
        | true => exact absurd ((legal_doc hr h.len hk).1 hb i hi hkd) hne
      rw [this]
    | yes _ hk hr2 =>
      rw [← hn] at hk
      rw [if_pos hk, (legal_doc hr h.len hk).2 hr2]
theorem rord_il {w : World} {v : Value} {H : List Ev} (h : EvL w v H) : Calls Tryd.prog 12 #[v] w fun e w' => ∃ u z o, e = .returned (.tuple #[u, .int .i64 z]) ∧ IL w' u o ∧ (∀ b, u.ownBlock = some b → w.heap.size ≤ b) ∧ Below w.heap.size w w' := by
  refine (rorder_any h).mono ?_
  rintro e w' ⟨hq, hb⟩
  rcases hq with ⟨_, rfl⟩ | ⟨_, u, rfl, ho⟩
  · exact ⟨_, _, [], rfl, ⟨none, 0, rfl, by simp, by simp, by simp, fun _ => rfl, Or.inl rfl⟩, (fun b hb => by cases hb), hb⟩
  · refine ⟨_, _, _, rfl, own_il ho (orD_len _ _) ?_, (fun b hb => (own_block ho b hb).1), hb⟩
    rw [orD_len]
    have := cnt_le H H.length 7 (-1)
    have := h.len
    omega
theorem info_ints : (Tryd.prog.info? 37).map (fun i => (i.zero, i.size, i.bytes)) = some (some (.slice none 0 0), 1, 24) := by kernel_rfl
theorem own_one (w : World) (u : Value) : (w.alloc (.cells #[u] 37)).ownsRow w.heap.size 37 1 (.slice (some ⟨w.heap.size, 0, none⟩) 1 1) 1 [u] :=
  ⟨rfl, Or.inr ⟨w.heap.size, 1, _, rfl, Nat.le_refl _, heap_alloc_new _ _, Nat.le_refl _, by decide, rfl, rfl⟩⟩
theorem il_one {w : World} {u : Value} {l : List Int} (h : IL w u l) : u.oneCell' = true := by
  obtain ⟨a, cap, rfl, _⟩ := h
  rfl
set_option maxRecDepth 1000000 in
set_option maxHeartbeats 8000000 in
theorem holds_walk {w : World} {v vo : Value} {H : List Ev} {o : List Int} {a c : Addr} (h : EvL w v H) (ho : IL w vo o) (he : ErrAt w a c) : Calls Tryd.prog 5 #[v, vo] w fun e w' => e = .returned (.bool true) ∧ Below w.heap.size w w' := by
  obtain ⟨i0, hi0, hz0, hz1, hz2⟩ := info_parts info_ints
  have HSH : Hid (Calls Tryd.prog 7 #[] w fun e w' => e = .returned (.bool true) ∧ Below w.heap.size w w') := shown_any he
  have HRO : Hid (∀ w', Below w.heap.size w w' → Calls Tryd.prog 12 #[v] w' fun e w'' => ∃ u z o, e = .returned (.tuple #[u, .int .i64 z]) ∧ IL w'' u o ∧ (∀ b, u.ownBlock = some b → w'.heap.size ≤ b) ∧ Below w'.heap.size w' w'') := fun w' hb => rord_il (h.later hb (Nat.le_refl _))
  have hpo : ∀ p, readD H = some p → PaOk p := fun p hp => paok_of hp fun e he => ⟨(h.ok e he).2.1, (h.ok e he).2.2⟩
  have HT1 : Hid (∀ w' u q, Below w.heap.size w w' → IL w' u q → Calls Tryd.prog 14 #[v, u] w' (BoolQ (timelyA H q) w')) := fun w' u q hb hi => timelyf_any (h.later hb (Nat.le_refl _)) hi (he.later hb (Nat.le_refl _)) hpo
  have HT2 : Hid (∀ w' u q, Below w.heap.size w w' → IL w' u q → Calls Tryd.prog 15 #[v, u] w' (BoolQ (timelyA H q) w')) := fun w' u q hb hi => rtim_q (h.later hb (Nat.le_refl _)) hi
  have HL1 : Hid (∀ w' u q, Below w.heap.size w w' → IL w' u q → Calls Tryd.prog 16 #[v, u] w' (BoolQ (legalA H q) w')) := fun w' u q hb hi => legalf_any (h.later hb (Nat.le_refl _)) hi (he.later hb (Nat.le_refl _)) hpo
  have HL2 : Hid (∀ w' u q, Below w.heap.size w w' → IL w' u q → Calls Tryd.prog 17 #[v, u] w' (BoolQ (legalA H q) w')) := fun w' u q hb hi => rleg_q (h.later hb (Nat.le_refl _)) hi
  have HIO : Hid (∀ w', Below w.heap.size w w' → IL w' vo o) := fun w' hb => ho.later hb (Nat.le_refl _)
  obtain ⟨sa, sc, rfl⟩ : ∃ a c, vo = .slice a o.length c := by obtain ⟨a, c, e, _⟩ := ho; exact ⟨a, c, e⟩
  unfold BoolQ at HT1 HT2 HL1 HL2
  clear h ho he hpo
  go_enter Tryd.func5, Tryd.ntmps5
  go_wp2_with fail
  refine HSH.out.mono ?_
  rintro e x1 ⟨rfl, hb1⟩
  have HB1 : Hid (Below w.heap.size w x1) := hb1
  clear hb1
  go_wp2_with fail
  have HBa : Hid (∀ o, Below w.heap.size w (x1.alloc o)) := fun o => below_alloc HB1.out o
  refine (HRO.out _ (HBa.out _)).mono ?_
  rintro e x2 ⟨u2, z2, q2, rfl, hil2, hob2, hb2⟩
  have HO2 : Hid (x2.ownsRow x1.heap.size 37 1 (.slice (some ⟨x1.heap.size, 0, none⟩) 1 1) 1 [.slice sa o.length sc]) := own_keep (own_one x1 _) (Keep.of_below hb2 []) (by simp)
  have HB2 : Hid (Below x1.heap.size x1 x2) := below_then (below_a1 _ _) hb2
  have hs2 : x1.heap.size ≤ x2.heap.size := HB2.out.size
  obtain ⟨s2, c2, rfl⟩ : ∃ a c, u2 = .slice a q2.length c := by obtain ⟨a, c, e, _⟩ := hil2; exact ⟨a, c, e⟩
  have HIL2 : Hid (IL x2 (.slice s2 q2.length c2) q2) := hil2
  have HOB2 : Hid (∀ b, (Value.slice s2 q2.length c2).ownBlock = some b → x1.heap.size + 1 ≤ b) := fun b hb => by have := hob2 b hb; simpa using this
  clear hil2 hb2 hob2
  go_wp2_with (at_builtin; refine list_lies_wide _ rfl _ _ 43 rfl x1.heap.size 37 i0 _ 1 24 Tryd.underlying43 hi0 hz0 hz1 hz2 rfl (by decide) _ _ _ rfl (HO2.out.alloc _) ⟨x2.heap.size, 0, none⟩ 1 1 [.slice s2 q2.length c2] rfl rfl (World.news_of_block (cs := #[.slice s2 q2.length c2]) (t := 37) (fr := (0, 0)) (heap_alloc_new x2 _)) (by simp [Value.oneCell']) (by decide) (by unfold maxLen; omega) (by omega) (by simp; omega) _ rfl ?_)
  intro gg cap2 x3 hown3 hgrow hat hlt3
  have k3 : Keep [x1.heap.size] x2 x3 := (((Keep.refl [] x2).alloc _).mono (by simp)).grown hgrow (fun b hb => Or.inl (by simp [Value.ownBlock] at hb; simp [hb]))
  have HB3 : Hid (Below x1.heap.size x1 x3) := HB2.out.trans (k3.below HB2.out.size (by simp))
  have hgl : gg < x3.heap.size := hlt3
  have HC3 : Hid (∀ w', Below x3.heap.size x3 w' → w'.cell? ⟨gg, 0, none⟩ = some (.slice sa o.length sc) ∧ w'.cell? ⟨gg, 1, none⟩ = some (.slice s2 q2.length c2)) := fun w' hb => by
    rw [cell_below hb hgl, cell_below hb hgl]
    exact ⟨own_cells hown3 0 _ rfl, own_cells hown3 1 _ rfl⟩
  have HI3 : Hid (∀ w', Below x3.heap.size x3 w' → IL w' (.slice s2 q2.length c2) q2) := fun w' hb => by
    have hk : Keep [x1.heap.size] x2 w' := k3.trans (Keep.of_below hb []) (by simp)
    obtain ⟨a, cap, ee, h1, h2, h3, h4, h5⟩ := HIL2.out
    refine ⟨a, cap, ee, h1, h2, h3, h4, ?_⟩
    rcases h5 with h5 | ⟨x, e, hx, hc⟩
    · exact Or.inl h5
    · refine Or.inr ⟨x, e, by have := hk.size; omega, fun i hi => ?_⟩
      rw [← hc i hi]
      apply World.cell?_of_block
      rw [add_block]
      exact hk.block _ hx (by
        have := HOB2.out x.block (by injection ee with e1 _ _; rw [e1, e]; rfl)
        simp; omega)
  have HW3 : Hid (Below w.heap.size w x3) := below_then HB1.out HB3.out
  have HEL : Hid (∀ i, i < 2 → ∃ (s : Option Addr) (q : List Int) (c : Nat), ∀ w', Below x3.heap.size x3 w' → w'.cell? ⟨gg, i, none⟩ = some (.slice s q.length c) ∧ IL w' (.slice s q.length c) q) := fun i hi => by
    by_cases h0 : i = 0
    · subst h0; exact ⟨sa, o, sc, fun w' hb => ⟨(HC3.out w' hb).1, HIO.out w' (below_then HW3.out hb)⟩⟩
    · obtain rfl : i = 1 := by omega
      exact ⟨s2, q2, c2, fun w' hb => ⟨(HC3.out w' hb).2, HI3.out w' hb⟩⟩
  clear k3 hown3 hgrow hat hlt3 HC3 HI3 HIO HIL2 HOB2 HO2
  go_wp2_with fail
  go_loopw [9] (fun iv wr => ∃ i : Nat, i ≤ 2 ∧ iv = .int .i64 (i : Int) ∧ Hid (Below x3.heap.size x3 wr)) (fun iv _ => 2 - (intOf iv).toNat)
  case atStart => exact ⟨0, by omega, rfl, Below.refl _ _⟩
  case round =>
    obtain ⟨i, hi, rfl, HB⟩ := hrel
    by_cases hlt : i < 2
    · have hd : decide ((i : Int) < 2) = true := by simp; omega
      have hi2 : (i : Int) < 2 := by omega
      have hw : wrap64 ((i : Int) + 1) = ((i + 1 : Nat) : Int) := by unfold wrap64; omega
      have HMS : Hid (2 - (i + 1) < 2 - i) := by rw [Hid]; omega
      have HI1 : Hid (i + 1 ≤ 2) := hlt
      obtain ⟨ss, qs, cs, hel⟩ := HEL.out i hlt
      have HE : Hid (∀ w', Below x3.heap.size x3 w' → w'.cell? ⟨gg, i, none⟩ = some (.slice ss qs.length cs) ∧ IL w' (.slice ss qs.length cs) qs) := hel
      have HWr : Hid (Below w.heap.size w wr) := below_then HW3.out HB.out
      have e0 := (HE.out _ HB.out).1
      have R1 : Hid (∀ w', Below x3.heap.size x3 w' → Calls Tryd.prog 14 #[v, .slice ss qs.length cs] w' fun e w'' => e = .returned (.tuple #[.bool (timelyA H qs).1, .int .i64 (timelyA H qs).2]) ∧ Below w'.heap.size w' w'') := fun w' hb => HT1.out w' _ _ (below_then HW3.out hb) (HE.out w' hb).2
      have R2 : Hid (∀ w', Below x3.heap.size x3 w' → Calls Tryd.prog 15 #[v, .slice ss qs.length cs] w' fun e w'' => e = .returned (.tuple #[.bool (timelyA H qs).1, .int .i64 (timelyA H qs).2]) ∧ Below w'.heap.size w' w'') := fun w' hb => HT2.out w' _ _ (below_then HW3.out hb) (HE.out w' hb).2
      have R3 : Hid (∀ w', Below x3.heap.size x3 w' → Calls Tryd.prog 16 #[v, .slice ss qs.length cs] w' fun e w'' => e = .returned (.tuple #[.bool (legalA H qs).1, .int .i64 (legalA H qs).2]) ∧ Below w'.heap.size w' w'') := fun w' hb => HL1.out w' _ _ (below_then HW3.out hb) (HE.out w' hb).2
      have R4 : Hid (∀ w', Below x3.heap.size x3 w' → Calls Tryd.prog 17 #[v, .slice ss qs.length cs] w' fun e w'' => e = .returned (.tuple #[.bool (legalA H qs).1, .int .i64 (legalA H qs).2]) ∧ Below w'.heap.size w' w'') := fun w' hb => HL2.out w' _ _ (below_then HW3.out hb) (HE.out w' hb).2
      generalize (timelyA H qs).1 = t1 at *
      generalize (timelyA H qs).2 = t2 at *
      generalize (legalA H qs).1 = l1 at *
      generalize (legalA H qs).2 = l2 at *
      clear hel hlt hi
      go_wp2_with fail
      refine (R1.out _ HB.out).mono ?_
      rintro e y1 ⟨rfl, hy1⟩
      have HY1 : Hid (Below x3.heap.size x3 y1) := below_then HB.out hy1
      have e1 := (HE.out _ HY1.out).1
      clear hy1
      go_wp2_with fail
      refine (R2.out _ HY1.out).mono ?_
      rintro e y2 ⟨rfl, hy2⟩
      have HY2 : Hid (Below x3.heap.size x3 y2) := below_then HY1.out hy2
      have e2 := (HE.out _ HY2.out).1
      clear hy2
      go_wp2_with fail
      refine (R3.out _ HY2.out).mono ?_
      rintro e y3 ⟨rfl, hy3⟩
      have HY3 : Hid (Below x3.heap.size x3 y3) := below_then HY2.out hy3
      have e3 := (HE.out _ HY3.out).1
      clear hy3
      go_wp2_with fail
      refine (R4.out _ HY3.out).mono ?_
      rintro e y4 ⟨rfl, hy4⟩
      have HY4 : Hid (Below x3.heap.size x3 y4) := below_then HY3.out hy4
      have n1 : (t1 != t1) = false := by simp
      have n2 : (t2 != t2) = false := by simp
      have n3 : (l1 != l1) = false := by simp
      have n4 : (l2 != l2) = false := by simp
      clear hy4
      go_wp2_with fail
      go_roundw
      case rel => exact ⟨i + 1, HI1.out, by first | rfl | rw [hw] | go_num, HY4⟩
      case measure => first | (rw [hw]; simpa [intOf] using HMS.out) | (simpa [intOf] using HMS.out)
    · obtain rfl : i = 2 := by omega
      have hd : decide ((2 : Int) < 2) = false := by simp
      clear hi hlt
      go_wp2_with fail
      go_ret
      exact ⟨rfl, below_then HW3.out HB.out⟩
end Go.Proofs.YtbpnookejildnaaDoor.Hi
