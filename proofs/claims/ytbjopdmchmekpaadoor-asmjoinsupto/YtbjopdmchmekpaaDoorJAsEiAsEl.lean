/- The document's line. -/
import Derived.Test.YtbjopdmchmekpaaDoorJAsDmAsEh
import Derived.Deep.CutBlock
import Derived.Deep.DeepCutAuto
import Derived.Test.YtbjopdmchmekpaaDoorJAsDaAsEg
import Derived.Deep.LoopGhost
import Derived.RegionTactic
import Derived.BigRegion
namespace Go.Proofs.YtbjopdmchmekpaaDoor
open Go.ChangeShapes Go.WideShapes Go.ChangeAt Go.RowKit
attribute [local go_sem ↓] Go.wp_at_zero Go.wp_at_succ

/-- What a line answers. -/
def LinA (B X : Nat) (w : World) (Y : Except (Int × Nat) PS) (e : Ending) (w' : World) : Prop := (match Y with
  | .error (e0, p) => e = .returned (.tuple #[.int .i64 e0, .int .i64 (p : Int)])
  | .ok st' => e = .returned (.tuple #[.int .i64 0, .int .i64 0]) ∧ ∃ d', AmAt w' B X d' ∧ DR d' st') ∧ Fz B X w w'
theorem lb_e {d : DS} {l : List Tok} {e : Int} {p : Nat} (h : labelsV d l = .error (e, p)) : e = 9 ∨ e = 11 := by
  match l, h with
  | (x, q) :: r, h =>
    simp only [labelsV] at h
    split at h
    · split at h
      · split at h
        · cases h
        · injection h with h; injection h with h1 _; exact Or.inr h1.symm
      · injection h with h; injection h with h1 _; exact Or.inl h1.symm
    · cases h
theorem od_e {c : Nat} {x : Tok} {r : List Tok} {e : Int} {p : Nat} (h : odV c x r = .error (e, p)) : e = 9 ∨ e = 12 := by
  match r, h with
  | [], h => injection h with h; injection h with h1 _; exact Or.inl h1.symm
  | (y, q) :: r2, h =>
    unfold odV at h
    simp only at h
    split at h
    · split at h
      · cases h
      · injection h with h; injection h with h1 _; exact Or.inl h1.symm
    · split at h
      · cases h
      · injection h with h; injection h with h1 _; exact Or.inr h1.symm
/-- An instruction and a name in their variables. -/
structure LnM (w wx : World) (c : Nat) (ov : Int) (t : Tok) : Prop where
  ob : wx.heap[w.heap.size]? = some (.cells #[.int .i64 (c : Int), .int .i64 ov] 53 (0, 0))
  nb : wx.heap[w.heap.size + 1]? = some (.cells #[.string (S t.1), .int .i64 (t.2 : Int)] 55 (0, 0))
  bl : Below w.heap.size w wx
theorem er_fz {w2 w4 : World} {B X : Nat} {a b c : Value} (h : Below w2.heap.size w2 w4) (hB : B ≤ w2.heap.size) : Fz B X w2 (((w4.setCell ⟨w2.heap.size, 1, none⟩ a).setCell ⟨w2.heap.size + 1, 0, none⟩ b).setCell ⟨w2.heap.size + 1, 1, none⟩ c) := by
  have hk : Keep [w2.heap.size, w2.heap.size + 1] w4 (((w4.setCell ⟨w2.heap.size, 1, none⟩ a).setCell ⟨w2.heap.size + 1, 0, none⟩ b).setCell ⟨w2.heap.size + 1, 1, none⟩ c) := (((Keep.refl _ _).setCell _ _ (Or.inl (by simp))).setCell _ _ (Or.inl (by simp))).setCell _ _ (Or.inl (by simp))
  exact Fz.of (h.trans (hk.below h.size (by simp))) hB
theorem ln_set {w2 w4 : World} {c : Nat} (h1 : w4.heap[w2.heap.size]? = some (.cells #[.int .i64 (c : Int), .int .i64 0] 53 (0, 0))) (h2 : w4.heap[w2.heap.size + 1]? = some (.cells #[.string ⟨#[]⟩, .int .i64 0] 55 (0, 0))) (h : Below w2.heap.size w2 w4) (ov : Int) (t : Tok) : LnM w2 (((w4.setCell ⟨w2.heap.size, 1, none⟩ (.int .i64 ov)).setCell ⟨w2.heap.size + 1, 0, none⟩ (.string (S t.1))).setCell ⟨w2.heap.size + 1, 1, none⟩ (.int .i64 (t.2 : Int))) c ov t := by
  have hk : Keep [w2.heap.size, w2.heap.size + 1] w4 (((w4.setCell ⟨w2.heap.size, 1, none⟩ (.int .i64 ov)).setCell ⟨w2.heap.size + 1, 0, none⟩ (.string (S t.1))).setCell ⟨w2.heap.size + 1, 1, none⟩ (.int .i64 (t.2 : Int))) := (((Keep.refl _ _).setCell _ _ (Or.inl (by simp))).setCell _ _ (Or.inl (by simp))).setCell _ _ (Or.inl (by simp))
  refine ⟨?_, ?_, h.trans (hk.below h.size (by simp))⟩
  · rw [heap_set_other _ _ (by omega), heap_set_other _ _ (by omega), heap_set h1]
    rfl
  · have h3 : (w4.setCell ⟨w2.heap.size, 1, none⟩ (.int .i64 ov)).heap[w2.heap.size + 1]? = some (.cells #[.string ⟨#[]⟩, .int .i64 0] 55 (0, 0)) := by rw [heap_set_other _ _ (by omega)]; exact h2
    rw [heap_set (heap_set h3 0 _) 1 _]
    rfl
theorem tk_nth {B X : Nat} {w : World} {g o n cap : Nat} {l : List Tok} (h : TkL B X w (.slice (some ⟨g, o, none⟩) n cap) l) (i : Nat) (hi : i < l.length) : w.cell? ⟨g, o + i * 2 + 1, none⟩ = some (.int .i64 ((l.getD i ([], 0)).2 : Int)) := by
  obtain ⟨a, cap', h1, h2, h3, h4, h5, h6⟩ := h
  injection h1 with e1 e2 e3
  subst e1
  obtain ⟨g', o', ha, hg, hc⟩ := h6.resolve_left (by omega)
  injection ha with ha
  injection ha with e1 e2
  subst e1 e2
  exact (hc i hi).2
theorem wd_le (c : Nat) : wdC c ≤ 8 := by
  unfold wdC
  split
  · omega
  · split
    · omega
    · split <;> omega
theorem ln_num {a b : Nat} (ha : a ≤ 512) (hb : b ≤ 8) : wrap64 ((a : Int) + 1) = (a : Int) + 1 ∧ wrap64 ((a : Int) + 1 + (b : Int)) = (a : Int) + 1 + (b : Int) := ⟨by unfold wrap64; omega, by unfold wrap64; omega⟩
theorem ln_yes {a s b : Nat} (h : a = s) (hf : 512 < s + (1 + b)) : decide ((512 : Int) < (a : Int) + 1 + (b : Int)) = true := by simp; omega
theorem ln_no {a s b : Nat} (h : a = s) (hf : ¬ 512 < s + (1 + b)) : decide ((512 : Int) < (a : Int) + 1 + (b : Int)) = false ∧ a + 1 + b ≤ 512 := ⟨by simp; omega, by omega⟩
theorem ln_k {k n : Nat} (h : ¬ k < n + 1) : decide ((k : Int) < (n : Int) + 1) = false ∧ n ≤ k - 1 := ⟨by simp; omega, by omega⟩
theorem ln_k2 {k n : Nat} (h : k < n + 1) : decide ((k : Int) < (n : Int) + 1) = true := by simp; omega
/-- Behind some of a line's appends. -/
structure Am1 (w : World) (B X Nb : Nat) (wx : World) (d : DS) (va vn vl : Value) (t : Tok) : Prop where
  am : ∃ vo, AmV wx B X d vo va vn vl
  fz : Fz B X w wx
  nb : wx.heap[Nb]? = some (.cells #[.string (S t.1), .int .i64 (t.2 : Int)] 55 (0, 0))
theorem info_ints : (Tryd.prog.info? 3).map (fun i => (i.zero, i.size, i.bytes)) = some (some (.int .i64 0), 1, 8) := by kernel_rfl
theorem word_le {x : List UInt8} {c : Nat} (h : wordI x = some c) : c ≤ 40 := by
  unfold wordI at h
  obtain ⟨h1, _⟩ := List.findIdx?_eq_some_iff_getElem.1 h
  have : wordT.length = 41 := rfl
  omega
set_option maxRecDepth 100000 in
set_option maxHeartbeats 1000000 in
theorem rline_any {w : World} {B X : Nat} {d : DS} {st : PS} {v : Value} {l : List Tok} (h : AmAt w B X d) (hd : DR d st) (hv : TkL B X w v l) (hB : B ≤ w.heap.size) (hl : d.labs.length ≤ 29999999) (hsz : d.size ≤ 512) (hops : d.ops.length ≤ d.size) :
    Calls Tryd.prog 16 #[.pointer (some ⟨X, 0, none⟩), v] w (LinA B X w (lineV st l)) := by
  have HLB : Hid (Calls Tryd.prog 30 #[.pointer (some ⟨X, 0, none⟩), v] w (LabA B X w (labelsV d l))) := rlabels_any h hv hB (by omega)
  have HB : Hid (B ≤ w.heap.size) := hB
  obtain ⟨va, vcap, hva, _⟩ := id hv
  subst hva
  cases hlv : labelsV d l with
  | error ep =>
    obtain ⟨e0, p⟩ := ep
    rw [hlv] at HLB
    have HY : Hid (lineV st l = .error (e0, p)) := line_err hd hlv
    rw [HY.out]
    have he := lb_e hlv
    clear h hd hv hlv hl hsz hops HY
    rcases he with rfl | rfl
    · go_enter Tryd.func16, Tryd.ntmps16
      go_wp2_with fail
      refine HLB.out.mono ?_
      rintro e w1 ⟨⟨v1, hm⟩, hf1⟩
      obtain rfl := hm
      have HF : Hid (Fz B X w w1) := hf1
      clear hf1
      go_wp2_with fail
      go_ret2
      exact ⟨rfl, HF.out⟩
    · go_enter Tryd.func16, Tryd.ntmps16
      go_wp2_with fail
      refine HLB.out.mono ?_
      rintro e w1 ⟨⟨v1, hm⟩, hf1⟩
      obtain rfl := hm
      have HF : Hid (Fz B X w w1) := hf1
      clear hf1
      go_wp2_with fail
      go_ret2
      exact ⟨rfl, HF.out⟩
  | ok dl =>
    obtain ⟨d', l'⟩ := dl
    rw [hlv] at HLB
    obtain ⟨st', hd', hY, hs', ho', hl'⟩ := line_ok hd hlv
    rw [hY]
    have HDR : Hid (DR d' st') := hd'
    obtain ⟨Y, hYY⟩ : ∃ Y, instV st' l' = Y := ⟨_, rfl⟩
    rw [hYY]
    have HY : Hid (instV st' l' = Y) := hYY
    clear hYY
    have HBD : Hid (d'.size ≤ 512 ∧ d'.ops.length ≤ d'.size ∧ d'.labs.length ≤ 30000000) := ⟨by omega, by rw [ho', hs']; exact hops, by omega⟩
    clear h hd hv hlv hY hs' ho' hl' hl hsz hops hd'
    go_enter Tryd.func16, Tryd.ntmps16
    go_wp2_with fail
    refine HLB.out.mono ?_
    rintro e w1 ⟨⟨v1, hm⟩, hf1⟩
    obtain ⟨rfl, ham, htk⟩ := hm
    have HF1 : Hid (Fz B X w w1) := hf1
    have HAM : Hid (AmAt w1 B X d') := ham
    have HTK : Hid (TkL B X w1 v1 l') := htk
    have hB1 : B ≤ w1.heap.size := Nat.le_trans HB.out hf1.size
    clear hf1 ham HLB
    match l', htk with
    | [], htk =>
      obtain ⟨a1, c1, hv1, _⟩ := htk
      subst hv1
      go_wp2_with fail
      go_ret2
      rw [← HY.out]
      exact ⟨⟨rfl, d', HAM.out, HDR.out⟩, HF1.out⟩
    | (x, p) :: r, htk =>
      have hbx : x.length ≤ 20000000 ∧ p ≤ 20000000 := by obtain ⟨a, cap, h1, h2, h3, h4, h5, h6⟩ := htk; exact ⟨(h5 (x, p) (by simp)).1, (h5 (x, p) (by simp)).2.1⟩
      obtain ⟨g, o, cap, hv1, hg, z0, z1⟩ := tk_one htk
      subst hv1
      simp only at z0 z1
      have HCD : Hid (∀ w : World, Calls Tryd.prog 31 #[.string (S x)] w fun e w' => e = .returned (.int .i64 (cdZ (wordI x))) ∧ Below w.heap.size w w') := fun w => by have := rcode_any (S x) w; rw [show (S x).data.toList = x by simp [S]] at this; exact this
      have HOD : Hid (∀ (w' : World) (c : Nat), c ≤ 40 → TkL B X w' (.slice (some ⟨g, o, none⟩) (r.length + 1) cap) ((x, p) :: r) → Calls Tryd.prog 33 #[.int .i64 (c : Int), .slice (some ⟨g, o, none⟩) (r.length + 1) cap] w' fun e w'' => e = .returned (odA (odV c (x, p) r)) ∧ Below w'.heap.size w' w'') := fun w' c hc h => rodn_any c hc h
      generalize hsx : S x = sx at *
      clear htk
      go_wp2_with fail
      refine (HCD.out _).mono ?_
      rintro e w2 ⟨rfl, hb2⟩
      have HF2 : Hid (Fz B X w w2) := HF1.out.trans (Fz.of hb2 hB1)
      have HAM2 : Hid (AmAt w2 B X d') := am_below HAM.out hb2
      have HTK2 : Hid (TkL B X w2 (.slice (some ⟨g, o, none⟩) (r.length + 1) cap) ((x, p) :: r)) := HTK.out.fz (Fz.of hb2 hB1)
      have y0 := cell_later hb2 hg z0
      have y1 := cell_later hb2 hg z1
      have hg2 : g < w2.heap.size := Nat.lt_of_lt_of_le hg hb2.size
      have hB2 : B ≤ w2.heap.size := Nat.le_trans hB1 hb2.size
      clear hb2 HF1 HAM HTK HCD z0 z1 hg hB1
      cases hw : wordI x with
      | none =>
        have HYE : Hid (Y = .error (9, p)) := by rw [Hid, ← HY.out]; exact inst_no st' hw
        have hcz : cdZ none = -1 := rfl
        rw [hcz]
        clear hw hcz HY
        go_wp2_with fail
        go_quiet (fail)
        go_wp2_with fail
        go_ret2
        rw [HYE.out]
        exact ⟨rfl, HF2.out.trans (Fz.of (below_drawn (Below.refl _ _) _) hB2)⟩
      | some c =>
        have hc40 : c ≤ 40 := word_le hw
        have hcz : cdZ (some c) = (c : Int) := rfl
        rw [hcz]
        have hcd : decide ((c : Int) < 0) = false := by simp
        have HWI : Hid (∀ w : World, Calls Tryd.prog 32 #[.int .i64 (c : Int)] w fun e w' => e = .returned (.int .i64 (wdC c : Int)) ∧ w' = w) := fun w => rwidth_any c hc40 w
        go_wp2_with fail
        refine (HWI.out _).mono ?_
        rintro e w3 ⟨rfl, hw3⟩
        obtain rfl : w2 = w3 := hw3.symm
        go_upto_if 45 with fail
        go_cut [10] (fun kv wx => ∃ (k : Nat) (ov : Int) (t : Tok), kv = .int .i64 (k : Int) ∧ (k = 1 ∨ k = 2) ∧ LnM w2 wx c ov t ∧ moreV st' p c ov (nmO t) (r.drop (k - 1)) = Y ∧ (t = ([], 0) ∨ (t.1 ≠ [] ∧ ldC c = true)))
        case first =>
          by_cases hwd : wdC c = 0
          · have HYM : Hid (moreV st' p c 0 none r = Y) := by rw [Hid, ← HY.out]; exact (inst_none st' hw hwd).symm
            have hd0 : decide (0 < wdC c) = false := by simp [hwd]
            simp only [hd0]
            clear hw HY HOD hcz
            go_wp2_with fail
            go_meet
            exact ⟨1, 0, ([], 0), rfl, Or.inl rfl, ⟨heap_alloc2_old _ _ _, heap_alloc2_new _ _ _, below_then (below_a1 _ _) (below_a1 _ _)⟩, HYM.out, Or.inl rfl⟩
          · have HYM := inst_opd st' (p := p) (r := r) hw hwd
            rw [HY.out] at HYM
            have hwp : decide (0 < wdC c) = true := by simp; omega
            simp only [hwp]
            cases hov : odV c (x, p) r with
            | error ep =>
              obtain ⟨e0, q⟩ := ep
              have HYE : Hid (Y = .error (e0, q)) := by rw [hov] at HYM; exact HYM
              have he := od_e hov
              have HOC : Hid (Calls Tryd.prog 33 #[.int .i64 (c : Int), .slice (some ⟨g, o, none⟩) (r.length + 1) cap] ((w2.alloc (.cells #[.int .i64 (c : Int), .int .i64 0] 53)).alloc (.cells #[.string ⟨#[]⟩, .int .i64 0] 55)) fun e w'' => e = .returned (odA (.error (e0, q))) ∧ Below ((w2.alloc (.cells #[.int .i64 (c : Int), .int .i64 0] 53)).alloc (.cells #[.string ⟨#[]⟩, .int .i64 0] 55)).heap.size ((w2.alloc (.cells #[.int .i64 (c : Int), .int .i64 0] 53)).alloc (.cells #[.string ⟨#[]⟩, .int .i64 0] 55)) w'') := by
                have := HOD.out _ c hc40 (HTK2.out.fz (Fz.of (below_then (below_a1 w2 (.cells #[.int .i64 (c : Int), .int .i64 0] 53)) (below_a1 _ (.cells #[.string ⟨#[]⟩, .int .i64 0] 55))) hB2))
                rw [hov] at this
                exact this
              clear hw HY HOD hcz hov HYM
              generalize (wdC c : Int) = wz at *
              have hin : Hid (∀ w4, Below ((w2.alloc (.cells #[.int .i64 (c : Int), .int .i64 0] 53)).alloc (.cells #[.string ⟨#[]⟩, .int .i64 0] 55)).heap.size ((w2.alloc (.cells #[.int .i64 (c : Int), .int .i64 0] 53)).alloc (.cells #[.string ⟨#[]⟩, .int .i64 0] 55)) w4 → w4.heap[w2.heap.size]? = some (.cells #[.int .i64 (c : Int), .int .i64 0] 53 (0, 0)) ∧ w4.heap[w2.heap.size + 1]? = some (.cells #[.string ⟨#[]⟩, .int .i64 0] 55 (0, 0)) ∧ Below w2.heap.size w2 w4) := fun w4 hb => row_nx1 hb
              rcases he with rfl | rfl
              · go_wp2_with fail
                refine HOC.out.mono ?_
                rintro e w4 ⟨rfl, hb4⟩
                obtain ⟨r0, r1, hbb⟩ := hin.out w4 hb4
                have f1 : w4.frozen? ⟨w2.heap.size, 1, none⟩ = false := frozen_at r0 1
                have f2 : w4.frozen? ⟨w2.heap.size + 1, 0, none⟩ = false := frozen_at r1 0
                have f3 : w4.frozen? ⟨w2.heap.size + 1, 1, none⟩ = false := frozen_at r1 1
                have c1 : w4.cell? ⟨w2.heap.size, 1, none⟩ = some (.int .i64 0) := by rw [cell_at r0]; rfl
                have c2 : w4.cell? ⟨w2.heap.size + 1, 0, none⟩ = some (.string ⟨#[]⟩) := by rw [cell_at r1]; rfl
                have c3 : w4.cell? ⟨w2.heap.size + 1, 1, none⟩ = some (.int .i64 0) := by rw [cell_at r1]; rfl
                have hl4 : w2.heap.size + 1 < w4.heap.size := heap_lt r1
                have HR : Hid (w4.heap[w2.heap.size]? = some (.cells #[.int .i64 (c : Int), .int .i64 0] 53 (0, 0)) ∧ w4.heap[w2.heap.size + 1]? = some (.cells #[.string ⟨#[]⟩, .int .i64 0] 55 (0, 0)) ∧ Below w2.heap.size w2 w4) := ⟨r0, r1, hbb⟩
                clear hb4 r0 r1 hbb hin HOC
                simp only [odA]
                go_wp2_with fail
                go_ret2
                rw [HYE.out]
                exact ⟨rfl, HF2.out.trans (er_fz HR.out.2.2 hB2)⟩
              · go_wp2_with fail
                refine HOC.out.mono ?_
                rintro e w4 ⟨rfl, hb4⟩
                obtain ⟨r0, r1, hbb⟩ := hin.out w4 hb4
                have f1 : w4.frozen? ⟨w2.heap.size, 1, none⟩ = false := frozen_at r0 1
                have f2 : w4.frozen? ⟨w2.heap.size + 1, 0, none⟩ = false := frozen_at r1 0
                have f3 : w4.frozen? ⟨w2.heap.size + 1, 1, none⟩ = false := frozen_at r1 1
                have c1 : w4.cell? ⟨w2.heap.size, 1, none⟩ = some (.int .i64 0) := by rw [cell_at r0]; rfl
                have c2 : w4.cell? ⟨w2.heap.size + 1, 0, none⟩ = some (.string ⟨#[]⟩) := by rw [cell_at r1]; rfl
                have c3 : w4.cell? ⟨w2.heap.size + 1, 1, none⟩ = some (.int .i64 0) := by rw [cell_at r1]; rfl
                have hl4 : w2.heap.size + 1 < w4.heap.size := heap_lt r1
                have HR : Hid (w4.heap[w2.heap.size]? = some (.cells #[.int .i64 (c : Int), .int .i64 0] 53 (0, 0)) ∧ w4.heap[w2.heap.size + 1]? = some (.cells #[.string ⟨#[]⟩, .int .i64 0] 55 (0, 0)) ∧ Below w2.heap.size w2 w4) := ⟨r0, r1, hbb⟩
                clear hb4 r0 r1 hbb hin HOC
                simp only [odA]
                go_wp2_with fail
                go_ret2
                rw [HYE.out]
                exact ⟨rfl, HF2.out.trans (er_fz HR.out.2.2 hB2)⟩
            | ok vt =>
              obtain ⟨ov, t⟩ := vt
              have HYE : Hid (Y = moreV st' p c ov (nmO t) (r.drop 1)) := by rw [hov] at HYM; exact HYM
              have HNT : Hid (t = ([], 0) ∨ (t.1 ≠ [] ∧ ldC c = true)) := od_name hov
              have HOC : Hid (Calls Tryd.prog 33 #[.int .i64 (c : Int), .slice (some ⟨g, o, none⟩) (r.length + 1) cap] ((w2.alloc (.cells #[.int .i64 (c : Int), .int .i64 0] 53)).alloc (.cells #[.string ⟨#[]⟩, .int .i64 0] 55)) fun e w'' => e = .returned (odA (.ok (ov, t))) ∧ Below ((w2.alloc (.cells #[.int .i64 (c : Int), .int .i64 0] 53)).alloc (.cells #[.string ⟨#[]⟩, .int .i64 0] 55)).heap.size ((w2.alloc (.cells #[.int .i64 (c : Int), .int .i64 0] 53)).alloc (.cells #[.string ⟨#[]⟩, .int .i64 0] 55)) w'') := by
                have := HOD.out _ c hc40 (HTK2.out.fz (Fz.of (below_then (below_a1 w2 (.cells #[.int .i64 (c : Int), .int .i64 0] 53)) (below_a1 _ (.cells #[.string ⟨#[]⟩, .int .i64 0] 55))) hB2))
                rw [hov] at this
                exact this
              clear hw HY HOD hcz hov HYM
              generalize (wdC c : Int) = wz at *
              have hin : Hid (∀ w4, Below ((w2.alloc (.cells #[.int .i64 (c : Int), .int .i64 0] 53)).alloc (.cells #[.string ⟨#[]⟩, .int .i64 0] 55)).heap.size ((w2.alloc (.cells #[.int .i64 (c : Int), .int .i64 0] 53)).alloc (.cells #[.string ⟨#[]⟩, .int .i64 0] 55)) w4 → w4.heap[w2.heap.size]? = some (.cells #[.int .i64 (c : Int), .int .i64 0] 53 (0, 0)) ∧ w4.heap[w2.heap.size + 1]? = some (.cells #[.string ⟨#[]⟩, .int .i64 0] 55 (0, 0)) ∧ Below w2.heap.size w2 w4) := fun w4 hb => row_nx1 hb
              go_wp2_with fail
              refine HOC.out.mono ?_
              rintro e w4 ⟨rfl, hb4⟩
              obtain ⟨r0, r1, hbb⟩ := hin.out w4 hb4
              have f1 : w4.frozen? ⟨w2.heap.size, 1, none⟩ = false := frozen_at r0 1
              have f2 : w4.frozen? ⟨w2.heap.size + 1, 0, none⟩ = false := frozen_at r1 0
              have f3 : w4.frozen? ⟨w2.heap.size + 1, 1, none⟩ = false := frozen_at r1 1
              have c1 : w4.cell? ⟨w2.heap.size, 1, none⟩ = some (.int .i64 0) := by rw [cell_at r0]; rfl
              have c2 : w4.cell? ⟨w2.heap.size + 1, 0, none⟩ = some (.string ⟨#[]⟩) := by rw [cell_at r1]; rfl
              have c3 : w4.cell? ⟨w2.heap.size + 1, 1, none⟩ = some (.int .i64 0) := by rw [cell_at r1]; rfl
              have hl4 : w2.heap.size + 1 < w4.heap.size := heap_lt r1
              have HR : Hid (w4.heap[w2.heap.size]? = some (.cells #[.int .i64 (c : Int), .int .i64 0] 53 (0, 0)) ∧ w4.heap[w2.heap.size + 1]? = some (.cells #[.string ⟨#[]⟩, .int .i64 0] 55 (0, 0)) ∧ Below w2.heap.size w2 w4) := ⟨r0, r1, hbb⟩
              clear hb4 r0 r1 hbb hin HOC
              simp only [odA]
              generalize hst : S t.1 = tt at *
              have HTT : Hid (S t.1 = tt) := hst
              generalize hqt : (t.2 : Int) = tq at *
              have HTQ : Hid ((t.2 : Int) = tq) := hqt
              clear hst hqt
              go_wp2_with fail
              go_meet
              exact ⟨2, ov, t, rfl, Or.inr rfl, by rw [← HTT.out, ← HTQ.out]; exact ln_set HR.out.1 HR.out.2.1 HR.out.2.2 ov t, HYE.out.symm, HNT.out⟩
        case rest =>
          obtain ⟨k, ov, t, rfl, hk, hln, hmo, hnt⟩ := hcut
          have HLN : Hid (LnM w2 wc c ov t) := hln
          have HFC : Hid (Fz B X w wc) := HF2.out.trans (Fz.of hln.bl hB2)
          have HAMC : Hid (AmAt wc B X d') := am_below HAM2.out hln.bl
          have HTKC : Hid (TkL B X wc (.slice (some ⟨g, o, none⟩) (r.length + 1) cap) ((x, p) :: r)) := HTK2.out.fz (Fz.of hln.bl hB2)
          have x0 := cell_later hln.bl hg2 y0
          have x1 := cell_later hln.bl hg2 y1
          have hgc : g < wc.heap.size := Nat.lt_of_lt_of_le hg2 hln.bl.size
          have hBc : B ≤ wc.heap.size := Nat.le_trans hB2 hln.bl.size
          have HMO : Hid (moreV st' p c ov (nmO t) (r.drop (k - 1)) = Y) := hmo
          have HNT : Hid (t = ([], 0) ∨ (t.1 ≠ [] ∧ ldC c = true)) := hnt
          have HW2 : Hid (w2.heap.size = w2.heap.size) := rfl
          clear hln hmo hnt HF2 HAM2 HTK2 HY HOD HWI y0 y1 hw hcz hg2
          by_cases hlk : k < r.length + 1
          · have hd1 : decide ((k : Int) < (r.length : Int) + 1) = true := ln_k2 hlk
            have xk := tk_nth HTKC.out k (by simpa using hlk)
            generalize hq : (((x, p) :: r).getD k ([], 0)).2 = q at xk
            have HYE : Hid (Y = .error (9, q)) := by
              rw [Hid, ← HMO.out, ← hq]
              rcases hk with rfl | rfl
              · match r, hlk with
                | (y, q2) :: r2, _ => rfl
              · match r, hlk with
                | y :: (y2, q2) :: r2, _ => rfl
                | [y], h => simp at h
            clear HMO HNT hq
            rcases hk with rfl | rfl
            · go_wp2_with fail
              go_quiet (fail)
              go_wp2_with fail
              go_ret2
              rw [HYE.out]
              exact ⟨rfl, HFC.out.trans (Fz.of (below_drawn (Below.refl _ _) _) hBc)⟩
            · go_wp2_with fail
              go_quiet (fail)
              go_wp2_with fail
              go_ret2
              rw [HYE.out]
              exact ⟨rfl, HFC.out.trans (Fz.of (below_drawn (Below.refl _ _) _) hBc)⟩
          · obtain ⟨hd1, hdk⟩ := ln_k hlk
            have hdr : r.drop (k - 1) = [] := List.drop_eq_nil_of_le hdk
            have HMO2 : Hid ((if 512 < st'.size + (1 + wdC c) then (.error (2, p) : Except (Int × Nat) PS) else .ok (addI st' c ov (nmO t))) = Y) := by have := HMO.out; rw [hdr] at this; exact this
            have hsd : d'.size = st'.size := HDR.out.size
            obtain ⟨hs512, hol, hll⟩ := HBD.out
            have hwd8 : wdC c ≤ 8 := wd_le c
            obtain ⟨hw1, hw2⟩ := ln_num hs512 hwd8
            obtain ⟨vo, va', vn, vl, hmv⟩ := HAMC.out
            have HMV : Hid (AmV wc B X d' vo va' vn vl) := hmv
            have c3 : wc.cell? ⟨X, 3, none⟩ = some (.int .i64 (d'.size : Int)) := by rw [cell_at hmv.blk]; rfl
            have hXc : X < wc.heap.size := heap_lt hmv.blk
            clear HMO hdr HAMC HTKC
            by_cases hfull : 512 < st'.size + (1 + wdC c)
            · have HYE : Hid (Y = .error (2, p)) := by rw [Hid, ← HMO2.out, if_pos hfull]
              have hd2 : decide ((512 : Int) < (d'.size : Int) + 1 + (wdC c : Int)) = true := ln_yes hsd hfull
              clear HMO2 hmv hfull hlk hk hsd hs512 hol hll hwd8 hdk
              generalize (wdC c : Int) = wz at *
              generalize (d'.size : Int) = dz at *
              go_wp2_with fail
              go_quiet (fail)
              go_wp2_with fail
              go_ret2
              rw [HYE.out]
              exact ⟨rfl, HFC.out.trans (Fz.of (below_drawn (Below.refl _ _) _) hBc)⟩
            · have HYE : Hid (Y = .ok (addI st' c ov (nmO t))) := by rw [Hid, ← HMO2.out, if_neg hfull]
              obtain ⟨hd2, hnu⟩ := ln_no hsd hfull
              have HNU : Hid (d'.size + 1 + wdC c ≤ 512 ∧ d'.ops.length ≤ d'.size) := ⟨hnu, hol⟩
              have hob := HLN.out.ob
              have o0 : wc.cell? ⟨w2.heap.size, 0, none⟩ = some (.int .i64 (c : Int)) := by rw [cell_at hob]; rfl
              have o1 : wc.cell? ⟨w2.heap.size, 1, none⟩ = some (.int .i64 ov) := by rw [cell_at hob]; rfl
              have hlob : w2.heap.size < wc.heap.size := heap_lt hob
              have c0 : wc.cell? ⟨X, 0, none⟩ = some vo := by rw [cell_at hmv.blk]; rfl
              have f0 : wc.frozen? ⟨X, 0, none⟩ = false := frozen_at hmv.blk 0
              have hneo : vo.ownBlock ≠ some X := fun e => (hmv.apart.1 X e).2.2.2.1 rfl
              obtain ⟨oa, oc, hvo⟩ := own_slice hmv.ro
              subst hvo
              have HRO : Hid (wc.ownsRow B 53 2 (.slice oa d'.ops.length oc) d'.ops.length (opsC d'.ops)) := hmv.ro
              obtain ⟨i0, hi0, hz0, hz1, hz2⟩ := info_parts info_op
              have HG0 : Hid (∀ (oo : Obj) (w1 : World) (gg cap : Nat), w1.ownsRow B 53 2 (.slice (some ⟨gg, 0, none⟩) (d'.ops.length + 1) cap) (d'.ops.length + 1) (opsC d'.ops ++ [.int .i64 (c : Int), .int .i64 ov]) → ((wc.alloc oo).drewN 1).grownBy w1 (Value.slice oa d'.ops.length oc).ownBlock → AmV (w1.setCell ⟨X, 0, none⟩ (.slice (some ⟨gg, 0, none⟩) (d'.ops.length + 1) cap)) B X { d' with ops := d'.ops ++ [((c : Int), ov)] } (.slice (some ⟨gg, 0, none⟩) (d'.ops.length + 1) cap) va' vn vl ∧ Fz B X wc (w1.setCell ⟨X, 0, none⟩ (.slice (some ⟨gg, 0, none⟩) (d'.ops.length + 1) cap)) ∧ (∀ b, b < wc.heap.size → (Value.slice oa d'.ops.length oc).ownBlock ≠ some b → b ≠ X → (w1.setCell ⟨X, 0, none⟩ (.slice (some ⟨gg, 0, none⟩) (d'.ops.length + 1) cap)).heap[b]? = wc.heap[b]?)) := fun oo w1 gg cap h1 h2 => HMV.out.op hBc h1 h2
              have hn512 : d'.ops.length ≤ 512 := Nat.le_trans hol hs512
              clear HMO2 hmv hlk hk hob hfull hsd hs512 hol hll hwd8 hnu hdk
              have HNB0 : Hid (wc.heap[w2.heap.size + 1]? = some (.cells #[.string (S t.1), .int .i64 (t.2 : Int)] 55 (0, 0)) ∧ w2.heap.size + 1 ≠ X ∧ (Value.slice oa d'.ops.length oc).ownBlock ≠ some (w2.heap.size + 1)) := ⟨HLN.out.nb, fun e => by have h1 := HMV.out.blk; rw [← e, HLN.out.nb] at h1; simp at h1, own_ne HRO.out HLN.out.nb (by decide)⟩
              obtain ⟨wz, hwz⟩ : ∃ wz, (wdC c : Int) = wz := ⟨_, rfl⟩
              have HWZ : Hid ((wdC c : Int) = wz) := hwz
              rw [hwz] at hw2 hd2
              rw [hwz]
              clear hwz
              obtain ⟨dz, hdz⟩ : ∃ dz, (d'.size : Int) = dz := ⟨_, rfl⟩
              have HDZ : Hid ((d'.size : Int) = dz) := hdz
              rw [hdz] at c3 hw1 hw2 hd2
              clear hdz
              generalize hnl : d'.ops.length = no at *
              generalize opsC d'.ops = xo at *
              have HNB : Hid (wc.heap[w2.heap.size + 1]? = some (.cells #[.string (S t.1), .int .i64 (t.2 : Int)] 55 (0, 0)) ∧ w2.heap.size + 1 ≠ X ∧ (Value.slice oa no oc).ownBlock ≠ some (w2.heap.size + 1)) := HNB0.out
              go_wp2_with fail
              go_cut [] (fun wx => Am1 w B X (w2.heap.size + 1) wx { d' with ops := d'.ops ++ [((c : Int), ov)] } va' vn vl t)
              case first =>
                go_region_law ((refine step_lies_wide _ (by rfl) _ _ _ (by rfl) B 53 i0 _ 2 16 Tryd.underlying28 hi0 hz0 hz1 hz2 rfl (by omega) (.slice oa no oc) no xo (by rfl) ((HRO.out.alloc _).drew) ⟨wc.heap.size, 0, none⟩ 1 1 [.int .i64 (c : Int), .int .i64 ov] (by rfl) (by rfl) (World.news_of_block (cs := #[.int .i64 (c : Int), .int .i64 ov]) (t := 53) (fr := (0, 0)) (heap_alloc_new wc _)) (by simp [Value.oneCell']) (by omega) (by unfold maxLen; omega) (by omega) (by simp; omega) (wc.heap.size + 1) (by simp) ?_; intro gg cap' w5 hown1 hgrow hat hlt1; have hs1 : w5.cell? ⟨X, 0, none⟩ = some (.slice oa no oc) := (by rw [hgrow.cell_far _ (by simp; omega) (Ne.symm hneo)]; simp [hXc, World.cell?_alloc_past, c0]); have hs2 : w5.frozen? ⟨X, 0, none⟩ = false := (by rw [hgrow.frozen_far _ (by simp; omega) (Ne.symm hneo)]; rw [show ∀ (a : Addr) (v : World), v.drew.frozen? a = v.frozen? a from fun _ _ => rfl, World.frozen?_alloc_past _ _ _ hXc]; exact f0)))
                all_goals
                  obtain ⟨k1, k2, k3⟩ := HG0.out _ w5 gg cap' hown1 hgrow
                  have HK : Hid (Am1 w B X (w2.heap.size + 1) (w5.setCell ⟨X, 0, none⟩ (.slice (some ⟨gg, 0, none⟩) (no + 1) cap')) { d' with ops := d'.ops ++ [((c : Int), ov)] } va' vn vl t) := ⟨⟨_, k1⟩, HFC.out.trans k2, by rw [k3 _ (heap_lt HNB.out.1) HNB.out.2.2 HNB.out.2.1]; exact HNB.out.1⟩
                  clear hown1 hgrow hat hs1 hs2 k1 k2 k3 hlt1 HG0
                  go_wp2_with fail
                  go_meet
                  exact HK.out
              case rest =>
                obtain ⟨⟨vo1, hm1⟩, hf1, hn1⟩ := hcut
                have HM1 : Hid (AmV wc B X { d' with ops := d'.ops ++ [((c : Int), ov)] } vo1 va' vn vl) := hm1
                have HF1 : Hid (Fz B X w wc) := hf1
                have HN1 : Hid (wc.heap[w2.heap.size + 1]? = some (.cells #[.string (S t.1), .int .i64 (t.2 : Int)] 55 (0, 0)) ∧ w2.heap.size + 1 ≠ X ∧ va'.ownBlock ≠ some (w2.heap.size + 1)) := ⟨hn1, HNB.out.2.1, own_ne hm1.ra hn1 (by decide)⟩
                have hX1 : X < wc.heap.size := heap_lt hm1.blk
                have hB1 : B ≤ wc.heap.size := Nat.le_trans HB.out hf1.size
                have e1 : wc.cell? ⟨X, 1, none⟩ = some va' := by rw [cell_at hm1.blk]; rfl
                have e3 : wc.cell? ⟨X, 3, none⟩ = some (.int .i64 dz) := by rw [cell_at hm1.blk, ← HDZ.out]; rfl
                have g1 : wc.frozen? ⟨X, 1, none⟩ = false := frozen_at hm1.blk 1
                have hnea : va'.ownBlock ≠ some X := fun e => (hm1.apart.2.1 X e).2.2.2.1 rfl
                obtain ⟨aa, ac, hva⟩ := own_slice hm1.ra
                subst hva
                have hna : d'.ats.length ≤ 512 := by have h1 := HDR.out.la; have h2 := hn512; rw [← hnl] at h2; omega
                have HRA : Hid (wc.ownsRow B 3 1 (.slice aa d'.ats.length ac) d'.ats.length (intC d'.ats)) := hm1.ra
                have HG1 : Hid (∀ (oo : Obj) (w1 : World) (gg cap : Nat), w1.ownsRow B 3 1 (.slice (some ⟨gg, 0, none⟩) (d'.ats.length + 1) cap) (d'.ats.length + 1) (intC d'.ats ++ [.int .i64 dz]) → ((wc.alloc oo).drewN 1).grownBy w1 (Value.slice aa d'.ats.length ac).ownBlock → AmV (w1.setCell ⟨X, 1, none⟩ (.slice (some ⟨gg, 0, none⟩) (d'.ats.length + 1) cap)) B X { d' with ops := d'.ops ++ [((c : Int), ov)], ats := d'.ats ++ [d'.size] } vo1 (.slice (some ⟨gg, 0, none⟩) (d'.ats.length + 1) cap) vn vl ∧ Fz B X wc (w1.setCell ⟨X, 1, none⟩ (.slice (some ⟨gg, 0, none⟩) (d'.ats.length + 1) cap)) ∧ (∀ b, b < wc.heap.size → (Value.slice aa d'.ats.length ac).ownBlock ≠ some b → b ≠ X → (w1.setCell ⟨X, 1, none⟩ (.slice (some ⟨gg, 0, none⟩) (d'.ats.length + 1) cap)).heap[b]? = wc.heap[b]?)) := fun oo w1 gg cap h1 h2 => by
                  rw [← HDZ.out] at h1
                  exact HM1.out.pl (n := d'.size) hB1 h1 h2
                obtain ⟨i1, hi1, hy0, hy1, hy2⟩ := info_parts info_ints
                clear hm1 hf1 hn1 HNB HG0 HRO c0 c3 f0 hneo hXc hBc o0 o1 hlob x0 x1 hgc hi0 hz0 hz1 hz2
                generalize d'.ats.length = na at *
                generalize intC d'.ats = xa at *
                go_wp2_with fail
                go_cut [] (fun wx => ∃ va2, Am1 w B X (w2.heap.size + 1) wx { d' with ops := d'.ops ++ [((c : Int), ov)], ats := d'.ats ++ [d'.size] } va2 vn vl t)
                case first =>
                  go_region_law ((refine step_lies_wide _ (by rfl) _ _ _ (by rfl) B 3 i1 _ 1 8 Tryd.underlying42 hi1 hy0 hy1 hy2 rfl (by omega) (.slice aa na ac) na xa (by rfl) ((HRA.out.alloc _).drew) ⟨wc.heap.size, 0, none⟩ 1 1 [.int .i64 dz] (by rfl) (by rfl) (World.news_of_block (cs := #[.int .i64 dz]) (t := 3) (fr := (0, 0)) (heap_alloc_new wc _)) (by simp [Value.oneCell']) (by omega) (by unfold maxLen; omega) (by omega) (by simp; omega) (wc.heap.size + 1) (by simp) ?_; intro gg cap' w5 hown1 hgrow hat hlt1; have hs1 : w5.cell? ⟨X, 1, none⟩ = some (.slice aa na ac) := (by rw [hgrow.cell_far _ (by simp; omega) (Ne.symm hnea)]; simp [hX1, World.cell?_alloc_past, e1]); have hs2 : w5.frozen? ⟨X, 1, none⟩ = false := (by rw [hgrow.frozen_far _ (by simp; omega) (Ne.symm hnea)]; rw [show ∀ (a : Addr) (v : World), v.drew.frozen? a = v.frozen? a from fun _ _ => rfl, World.frozen?_alloc_past _ _ _ hX1]; exact g1)))
                  all_goals
                    obtain ⟨k1, k2, k3⟩ := HG1.out _ w5 gg cap' hown1 hgrow
                    have HK : Hid (∃ va2, Am1 w B X (w2.heap.size + 1) (w5.setCell ⟨X, 1, none⟩ (.slice (some ⟨gg, 0, none⟩) (na + 1) cap')) { d' with ops := d'.ops ++ [((c : Int), ov)], ats := d'.ats ++ [d'.size] } va2 vn vl t) := ⟨_, ⟨_, k1⟩, HF1.out.trans k2, by rw [k3 _ (heap_lt HN1.out.1) HN1.out.2.2 HN1.out.2.1]; exact HN1.out.1⟩
                    clear hown1 hgrow hat hs1 hs2 k1 k2 k3 hlt1 HG1
                    go_wp2_with fail
                    go_meet
                    exact HK.out
                case rest =>
                  obtain ⟨va2, ⟨vo2, hm2⟩, hf2, hn2⟩ := hcut
                  have HM2 : Hid (AmV wc B X { d' with ops := d'.ops ++ [((c : Int), ov)], ats := d'.ats ++ [d'.size] } vo2 va2 vn vl) := hm2
                  have HF2' : Hid (Fz B X w wc) := hf2
                  have hX2 : X < wc.heap.size := heap_lt hm2.blk
                  have hB2' : B ≤ wc.heap.size := Nat.le_trans HB.out hf2.size
                  have e2 : wc.cell? ⟨X, 2, none⟩ = some vn := by rw [cell_at hm2.blk]; rfl
                  have g2 : wc.frozen? ⟨X, 2, none⟩ = false := frozen_at hm2.blk 2
                  have n0 : wc.cell? ⟨w2.heap.size + 1, 0, none⟩ = some (.string (S t.1)) := by rw [cell_at hn2]; rfl
                  have n1 : wc.cell? ⟨w2.heap.size + 1, 1, none⟩ = some (.int .i64 (t.2 : Int)) := by rw [cell_at hn2]; rfl
                  have hln : w2.heap.size + 1 < wc.heap.size := heap_lt hn2
                  have hnen : vn.ownBlock ≠ some X := fun e => (hm2.apart.2.2.1 X e).2.2.2.1 rfl
                  obtain ⟨na2, nc, hvn⟩ := own_slice hm2.rn
                  subst hvn
                  have hnn : d'.nms.length ≤ 512 := by have h1 := HDR.out.ln; have h2 := hn512; rw [← hnl] at h2; omega
                  have HRN : Hid (wc.ownsRow B 55 2 (.slice na2 d'.nms.length nc) d'.nms.length (tkC d'.nms)) := hm2.rn
                  have HG2 : Hid (∀ (oo : Obj) (w1 : World) (gg cap : Nat), w1.ownsRow B 55 2 (.slice (some ⟨gg, 0, none⟩) (d'.nms.length + 1) cap) (d'.nms.length + 1) (tkC d'.nms ++ [.string (S t.1), .int .i64 (t.2 : Int)]) → ((wc.alloc oo).drewN 1).grownBy w1 (Value.slice na2 d'.nms.length nc).ownBlock → ((Value.slice na2 d'.nms.length nc).ownBlock = some gg ∨ gg = wc.heap.size + 1) → AmV (w1.setCell ⟨X, 2, none⟩ (.slice (some ⟨gg, 0, none⟩) (d'.nms.length + 1) cap)) B X { d' with ops := d'.ops ++ [((c : Int), ov)], ats := d'.ats ++ [d'.size], nms := d'.nms ++ [t] } vo2 va2 (.slice (some ⟨gg, 0, none⟩) (d'.nms.length + 1) cap) vl ∧ Fz B X wc (w1.setCell ⟨X, 2, none⟩ (.slice (some ⟨gg, 0, none⟩) (d'.nms.length + 1) cap))) := fun oo w1 gg cap h1 h2 h3 => by
                    obtain ⟨j1, j2, _⟩ := HM2.out.nm (x := t) hB2' h1 h2 h3
                    exact ⟨j1, j2⟩
                  obtain ⟨i2, hi2, hx0, hx1, hx2⟩ := info_parts info_tok
                  clear hm2 hf2 hn2 HG1 HRA e1 e3 g1 hnea hX1 hB1 hi1 hy0 hy1 hy2
                  generalize d'.nms.length = nn at *
                  generalize tkC d'.nms = xn at *
                  obtain ⟨ts, hts⟩ : ∃ ts, S t.1 = ts := ⟨_, rfl⟩
                  rw [hts] at n0 HG2
                  obtain ⟨tq, htq⟩ : ∃ tq, (t.2 : Int) = tq := ⟨_, rfl⟩
                  rw [htq] at n1 HG2
                  clear hts htq
                  go_wp2_with fail
                  go_cut [] (fun wx => Fz B X w wx ∧ ∃ vo va vn vl, AmV wx B X { d' with ops := d'.ops ++ [((c : Int), ov)], ats := d'.ats ++ [d'.size], nms := d'.nms ++ [t] } vo va vn vl)
                  case first =>
                    go_region_law ((refine step_lies_wide _ (by rfl) _ _ _ (by rfl) B 55 i2 _ 2 24 Tryd.underlying43 hi2 hx0 hx1 hx2 rfl (by omega) (.slice na2 nn nc) nn xn (by rfl) ((HRN.out.alloc _).drew) ⟨wc.heap.size, 0, none⟩ 1 1 [.string ts, .int .i64 tq] (by rfl) (by rfl) (World.news_of_block (cs := #[.string ts, .int .i64 tq]) (t := 55) (fr := (0, 0)) (heap_alloc_new wc _)) (by simp [Value.oneCell']) (by omega) (by unfold maxLen; omega) (by omega) (by simp; omega) (wc.heap.size + 1) (by simp) ?_; intro gg cap' w5 hown1 hgrow hat hlt1; have hs1 : w5.cell? ⟨X, 2, none⟩ = some (.slice na2 nn nc) := (by rw [hgrow.cell_far _ (by simp; omega) (Ne.symm hnen)]; simp [hX2, World.cell?_alloc_past, e2]); have hs2 : w5.frozen? ⟨X, 2, none⟩ = false := (by rw [hgrow.frozen_far _ (by simp; omega) (Ne.symm hnen)]; rw [show ∀ (a : Addr) (v : World), v.drew.frozen? a = v.frozen? a from fun _ _ => rfl, World.frozen?_alloc_past _ _ _ hX2]; exact g2)))
                    all_goals
                      obtain ⟨k1, k2⟩ := HG2.out _ w5 gg cap' hown1 hgrow hat
                      have HK : Hid (Fz B X w (w5.setCell ⟨X, 2, none⟩ (.slice (some ⟨gg, 0, none⟩) (nn + 1) cap')) ∧ ∃ vo va vn vl, AmV (w5.setCell ⟨X, 2, none⟩ (.slice (some ⟨gg, 0, none⟩) (nn + 1) cap')) B X { d' with ops := d'.ops ++ [((c : Int), ov)], ats := d'.ats ++ [d'.size], nms := d'.nms ++ [t] } vo va vn vl) := ⟨HF2'.out.trans k2, _, _, _, _, k1⟩
                      clear hown1 hgrow hat hs1 hs2 k1 k2 hlt1 HG2
                      go_wp2_with fail
                      go_meet
                      exact HK.out
                  case rest =>
                    obtain ⟨hf3, vo3, va3, vn3, vl3, hm3⟩ := hcut
                    have e3 : wc.cell? ⟨X, 3, none⟩ = some (.int .i64 dz) := by rw [cell_at hm3.blk, ← HDZ.out]; rfl
                    have g3 : wc.frozen? ⟨X, 3, none⟩ = false := frozen_at hm3.blk 3
                    have hX3 : X < wc.heap.size := heap_lt hm3.blk
                    have hzz : dz + 1 + wz = ((d'.size + (1 + wdC c) : Nat) : Int) := by rw [← HDZ.out, ← HWZ.out]; omega
                    obtain ⟨hm4, hf4⟩ := hm3.sz (d'.size + (1 + wdC c))
                    rw [← hzz] at hm4 hf4
                    have HFI : Hid (AmAt (wc.setCell ⟨X, 3, none⟩ (.int .i64 (dz + 1 + wz))) B X (addD d' c ov t) ∧ Fz B X w (wc.setCell ⟨X, 3, none⟩ (.int .i64 (dz + 1 + wz)))) := ⟨⟨_, _, _, _, hm4⟩, hf3.trans hf4⟩
                    clear hm3 hf3 hm4 hf4 hzz HG2 HRN e2 g2 n0 n1 hln hnen hX2 hB2' hi2 hx0 hx1 hx2
                    go_wp2_with fail
                    go_ret2
                    rw [HYE.out]
                    exact ⟨⟨rfl, addD d' c ov t, HFI.out.1, HDR.out.add c ov t HNT.out⟩, HFI.out.2⟩
end Go.Proofs.YtbjopdmchmekpaaDoor
/- The document's lines. -/
namespace Go.Proofs.YtbjopdmchmekpaaDoor
open Go.ChangeShapes Go.WideShapes Go.ChangeAt Go.RowKit
attribute [local go_sem ↓] Go.wp_at_zero Go.wp_at_succ

def linC (vs : List Value) : List Value := vs.flatMap fun v => [v, .string ⟨#[]⟩]
theorem linC_snoc (vs : List Value) (v : Value) : linC (vs ++ [v]) = linC vs ++ [v, .string ⟨#[]⟩] := by simp [linC]
theorem linC_len (vs : List Value) : (linC vs).length = vs.length * 2 := by
  induction vs with
  | nil => rfl
  | cons x l ih => simp only [linC, List.flatMap_cons, List.length_append, List.length_cons] at ih ⊢; simp only [List.length_nil]; omega
theorem linC_get (vs : List Value) (i : Nat) (hi : i < vs.length) : (linC vs)[i * 2]? = some (vs.getD i undef) := by
  induction vs generalizing i with
  | nil => simp at hi
  | cons x l ih =>
    cases i with
    | zero => simp [linC]
    | succ i =>
      have := ih i (by simpa using hi)
      have e1 : (i + 1) * 2 = i * 2 + 2 := by omega
      rw [e1]
      simpa [linC] using this
theorem info_line : (Tryd.prog.info? 51).map (fun i => (i.zero, i.size, i.bytes)) = some (some (.agg #[.slice none 0 0, .string ⟨#[]⟩]), 2, 40) := by kernel_rfl
/-- The tokens of lines that are through, and of the last one, as they lie. -/
structure LnV (w0 wr : World) (st : LS) (n : Nat) (vout : Value) (vs : List Value) (vc : Value) : Prop where
  bel : Below w0.heap.size w0 wr
  len : vs.length = st.ls.length
  out : wr.ownsRow w0.heap.size 51 2 vout (vs.length + 1) (linC (vs ++ [vc]))
  rows : ∀ i, i < vs.length → wr.ownsRow w0.heap.size 55 2 (vs.getD i undef) (st.ls.getD i []).length (tkC (st.ls.getD i []))
  cur : wr.ownsRow w0.heap.size 55 2 vc st.cur.length (tkC st.cur)
  ne : ∀ i, i < vs.length → ∀ b, (vs.getD i undef).ownBlock = some b → vc.ownBlock ≠ some b
  ok : ∀ l ∈ st.ls ++ [st.cur], l.length ≤ n ∧ ∀ x ∈ l, x.1.length ≤ n ∧ x.2 ≤ n ∧ x.1 ≠ []
  lb : st.ls.length ≤ n
  inn : st.inn = true → st.cur ≠ []
theorem scan_next (l : List UInt8) (i : Nat) (hi : i < l.length) (st : LS) : scanS st 0 (l.take (i + 1)) = stepS (scanS st 0 (l.take i)) i l[i] := by
  rw [List.take_succ_eq_append_getElem hi, scan_app]
  simp only [List.length_take, Nat.zero_add, Nat.min_eq_left (Nat.le_of_lt hi)]
  rfl
theorem LnV.idle {w0 wr w' : World} {st st' : LS} {n : Nat} {vout : Value} {vs : List Value} {vc : Value} (h : LnV w0 wr st n vout vs vc) (hb : Below wr.heap.size wr w') (h1 : st'.ls = st.ls) (h2 : st'.cur = st.cur) (h3 : st'.inn = false) : LnV w0 w' st' (n + 1) vout vs vc := by
  refine ⟨below_then h.bel hb, by rw [h1]; exact h.len, own_keep h.out (Keep.of_below hb []) (by simp), fun i hi => by rw [h1]; exact own_keep (h.rows i hi) (Keep.of_below hb []) (by simp), by rw [h2]; exact own_keep h.cur (Keep.of_below hb []) (by simp), h.ne, fun l hl => ?_, by rw [h1]; have := h.lb; omega, fun e => by rw [h3] at e; cases e⟩
  rw [h1, h2] at hl
  obtain ⟨j1, j2⟩ := h.ok l hl
  exact ⟨by omega, fun x hx => ⟨by have := (j2 x hx).1; omega, by have := (j2 x hx).2.1; omega, (j2 x hx).2.2⟩⟩
theorem getD_app_left {α : Type} (l : List α) (a d : α) (i : Nat) (hi : i < l.length) : (l ++ [a]).getD i d = l.getD i d := by simp [List.getElem?_append_left hi]
theorem getD_app_last {α : Type} (l : List α) (a d : α) : (l ++ [a]).getD l.length d = a := by simp
/-- A line more. -/
theorem LnV.line {w0 wr w' : World} {st : LS} {n g cap : Nat} {o : Obj} {vout : Value} {vs : List Value} {vc : Value} (h : LnV w0 wr st n vout vs vc)
    (hown : w'.ownsRow w0.heap.size 51 2 (.slice (some ⟨g, 0, none⟩) (vs.length + 1 + 1) cap) (vs.length + 1 + 1) (linC (vs ++ [vc]) ++ [.slice none 0 0, .string ⟨#[]⟩])) (hg : (wr.alloc o).grownBy w' vout.ownBlock) :
    LnV w0 w' ⟨st.ls ++ [st.cur], [], false, false⟩ (n + 1) (.slice (some ⟨g, 0, none⟩) (vs.length + 1 + 1) cap) (vs ++ [vc]) (.slice none 0 0) := by
  have hk : Keep (match vout.ownBlock with | some b => [b] | none => []) wr w' := ((Keep.refl _ _).alloc o).grown hg (fun b hb => by rw [hb]; simp)
  have hmem : ∀ b, b ∈ (match vout.ownBlock with | some b => [b] | none => []) → vout.ownBlock = some b := fun b hb => by
    cases hv : vout.ownBlock with
    | none => rw [hv] at hb; simp at hb
    | some c => rw [hv] at hb; simp at hb; rw [hb]
  have hst : ∀ (k : Nat) (v : Value) (xs : List Value), wr.ownsRow w0.heap.size 55 2 v k xs → w'.ownsRow w0.heap.size 55 2 v k xs := fun k v xs ho => own_keep ho hk (fun b hb hc => own_apart ho h.out (by decide) b hb (hmem b hc))
  have hlen := h.len
  refine ⟨h.bel.trans (hk.below h.bel.size (fun b hb => (own_block h.out b (hmem b hb)).1)), by simp [hlen], by rw [List.length_append, linC_snoc]; exact hown, fun i hi => ?_, World.ownsRow_nil _ _ _ _, fun i hi b hb => by simp [Value.ownBlock], fun l hl => ?_, by have := h.lb; simp; omega, fun e => by cases e⟩
  · simp only [List.length_append, List.length_singleton] at hi
    by_cases e : i < vs.length
    · rw [getD_app_left _ _ _ _ e, getD_app_left _ _ _ _ (by omega)]
      exact hst _ _ _ (h.rows i e)
    · obtain rfl : i = vs.length := by omega
      rw [getD_app_last]
      have : (st.ls ++ [st.cur]).getD vs.length [] = st.cur := by rw [hlen]; exact getD_app_last _ _ _
      rw [this]
      exact hst _ _ _ h.cur
  · simp only [List.mem_append, List.mem_singleton] at hl
    rcases hl with hl | rfl
    · obtain ⟨j1, j2⟩ := h.ok l (by simpa using hl)
      exact ⟨by omega, fun x hx => ⟨by have := (j2 x hx).1; omega, by have := (j2 x hx).2.1; omega, (j2 x hx).2.2⟩⟩
    · exact ⟨by simp, by simp⟩
theorem own_setk {w : World} {base g n cap sz : Nat} {e : TypeId} {xs : List Value} (h : w.ownsRow base e sz (.slice (some ⟨g, 0, none⟩) n cap) n xs) (j : Nat) (v : Value) : (w.setCell ⟨g, j, none⟩ v).ownsRow base e sz (.slice (some ⟨g, 0, none⟩) n cap) n (xs.set j v) := by
  have hl := h.1
  rcases h.2 with ⟨e, _⟩ | ⟨g', cap', cur, e, hb, hg, h1, h2, h3, h4⟩
  · cases e
  · simp at e
    obtain ⟨rfl, rfl⟩ := e
    refine ⟨by rw [List.length_set]; exact hl, Or.inr ⟨g, cap, cur.setIfInBounds j v, rfl, hb, heap_set hg j v, h1, h2, by simpa using h3, ?_⟩⟩
    rw [← h4]
    simp [List.take_set]
theorem tkC_set (cs : List Tok) (t u : List UInt8) (q : Nat) : (tkC (cs ++ [(t, q)])).set (cs.length * 2) (.string (S u)) = tkC (cs ++ [(u, q)]) := by
  rw [tkC_snoc, tkC_snoc, List.set_append_right _ _ (by rw [tkC_len]; exact Nat.le_refl _), tkC_len, Nat.sub_self]
  rfl
/-- One byte more of the last token. -/
theorem LnV.text {w0 wr : World} {ls : List (List Tok)} {cs : List Tok} {t : List UInt8} {q n gt tc : Nat} {vout : Value} {vs : List Value} (h : LnV w0 wr ⟨ls, cs ++ [(t, q)], true, false⟩ n vout vs (.slice (some ⟨gt, 0, none⟩) (cs ++ [(t, q)]).length tc)) (c : UInt8) :
    LnV w0 (wr.setCell ⟨gt, cs.length * 2, none⟩ (.string (S (t ++ [c])))).drew ⟨ls, cs ++ [(t ++ [c], q)], true, false⟩ (n + 1) vout vs (.slice (some ⟨gt, 0, none⟩) (cs ++ [(t, q)]).length tc) := by
  have hk0 : Keep [gt] wr (wr.setCell ⟨gt, cs.length * 2, none⟩ (.string (S (t ++ [c])))) := (Keep.refl _ _).setCell _ _ (Or.inl (by simp))
  have hk : Keep [gt] wr (wr.setCell ⟨gt, cs.length * 2, none⟩ (.string (S (t ++ [c])))).drew := hk0.drewN 1
  have hcur : wr.ownsRow w0.heap.size 55 2 (.slice (some ⟨gt, 0, none⟩) (cs ++ [(t, q)]).length tc) (cs ++ [(t, q)]).length (tkC (cs ++ [(t, q)])) := h.cur
  have hgt := (own_block hcur gt rfl).1
  refine ⟨h.bel.trans (hk.below h.bel.size (by simpa using hgt)), h.len, own_keep h.out hk (fun b hb => by simp; exact fun e => own_apart h.out hcur (by decide) b hb (by rw [e]; rfl)), fun i hi => own_keep (h.rows i hi) hk (fun b hb => by simp; exact fun e => h.ne i hi b hb (by rw [e]; rfl)), ?_, h.ne, fun l hl => ?_, by have := h.lb; simp only at this ⊢; omega, fun _ => by simp⟩
  · show (wr.setCell ⟨gt, cs.length * 2, none⟩ (.string (S (t ++ [c])))).drew.ownsRow w0.heap.size 55 2 (.slice (some ⟨gt, 0, none⟩) (cs ++ [(t, q)]).length tc) (cs ++ [(t ++ [c], q)]).length (tkC (cs ++ [(t ++ [c], q)]))
    have h1 := own_setk hcur (cs.length * 2) (.string (S (t ++ [c])))
    rw [tkC_set] at h1
    have h2 := own_keep h1 (Keep.drewN (Keep.refl [] _) 1) (by simp)
    simp only [List.length_append, List.length_singleton] at h2 ⊢
    exact h2
  · simp only [List.mem_append, List.mem_singleton] at hl
    have hold := h.ok (cs ++ [(t, q)]) (by simp)
    simp only [List.length_append, List.length_singleton] at hold
    rcases hl with hl | rfl
    · obtain ⟨j1, j2⟩ := h.ok l (by simp [hl])
      exact ⟨by omega, fun x hx => ⟨by have := (j2 x hx).1; omega, by have := (j2 x hx).2.1; omega, (j2 x hx).2.2⟩⟩
    · refine ⟨by simp only [List.length_append, List.length_singleton]; omega, fun x hx => ?_⟩
      simp only [List.mem_append, List.mem_singleton] at hx
      rcases hx with hx | rfl
      · obtain ⟨k1, k2, k3⟩ := hold.2 x (by simp [hx])
        exact ⟨by omega, by omega, k3⟩
      · obtain ⟨k1, k2, k3⟩ := hold.2 (t, q) (by simp)
        simp only at k1 k2
        exact ⟨by simp only [List.length_append, List.length_singleton]; omega, by simp only; omega, by simp⟩
theorem linC_set (vs : List Value) (v u : Value) : (linC (vs ++ [v])).set (vs.length * 2) u = linC (vs ++ [u]) := by
  rw [linC_snoc, linC_snoc, List.set_append_right _ _ (by rw [linC_len]; exact Nat.le_refl _), linC_len, Nat.sub_self]
  rfl
/-- A token more, with its first byte. -/
theorem LnV.tok {w0 wr w5 : World} {ls : List (List Tok)} {cur : List Tok} {n go oc gg cap : Nat} {o : Obj} {vs : List Value} {vc : Value} (h : LnV w0 wr ⟨ls, cur, false, false⟩ n (.slice (some ⟨go, 0, none⟩) (vs.length + 1) oc) vs vc)
    (hown : w5.ownsRow w0.heap.size 55 2 (.slice (some ⟨gg, 0, none⟩) (cur.length + 1) cap) (cur.length + 1) (tkC cur ++ [.string ⟨#[]⟩, .int .i64 (n : Int)])) (hg : (wr.alloc o).grownBy w5 vc.ownBlock) (hat : vc.ownBlock = some gg ∨ gg = wr.heap.size + 1) (c : UInt8) :
    LnV w0 ((w5.setCell ⟨go, vs.length * 2, none⟩ (.slice (some ⟨gg, 0, none⟩) (cur.length + 1) cap)).setCell ⟨gg, cur.length * 2, none⟩ (.string (S [c]))).drew ⟨ls, cur ++ [([c], n)], true, false⟩ (n + 1) (.slice (some ⟨go, 0, none⟩) (vs.length + 1) oc) vs (.slice (some ⟨gg, 0, none⟩) (cur.length + 1) cap) ∧
    ((w5.setCell ⟨go, vs.length * 2, none⟩ (.slice (some ⟨gg, 0, none⟩) (cur.length + 1) cap)).cell? ⟨go, vs.length * 2, none⟩ = some (.slice (some ⟨gg, 0, none⟩) (cur.length + 1) cap) ∧ (w5.setCell ⟨go, vs.length * 2, none⟩ (.slice (some ⟨gg, 0, none⟩) (cur.length + 1) cap)).cell? ⟨gg, cur.length * 2, none⟩ = some (.string ⟨#[]⟩) ∧ (w5.setCell ⟨go, vs.length * 2, none⟩ (.slice (some ⟨gg, 0, none⟩) (cur.length + 1) cap)).frozen? ⟨gg, cur.length * 2, none⟩ = false ∧ go < (w5.setCell ⟨go, vs.length * 2, none⟩ (.slice (some ⟨gg, 0, none⟩) (cur.length + 1) cap)).heap.size ∧ gg < (w5.setCell ⟨go, vs.length * 2, none⟩ (.slice (some ⟨gg, 0, none⟩) (cur.length + 1) cap)).heap.size) := by
  have hk : Keep (match vc.ownBlock with | some b => [b] | none => []) wr w5 := ((Keep.refl _ _).alloc o).grown hg (fun b hb => by rw [hb]; simp)
  have hmem : ∀ b, b ∈ (match vc.ownBlock with | some b => [b] | none => []) → vc.ownBlock = some b := fun b hb => by
    cases hv : vc.ownBlock with
    | none => rw [hv] at hb; simp at hb
    | some c => rw [hv] at hb; simp at hb; rw [hb]
  have hcur : wr.ownsRow w0.heap.size 55 2 vc cur.length (tkC cur) := h.cur
  have ho5 := own_keep h.out hk (fun b hb hc => own_apart h.out hcur (by decide) b hb (hmem b hc))
  have hgo : gg ≠ go := fun e => own_apart hown ho5 (by decide) gg rfl (by rw [e]; rfl)
  have hgb := (own_block hown gg rfl).1
  have hgob := (own_block ho5 go rfl).1
  have hk2 : Keep [go] w5 (w5.setCell ⟨go, vs.length * 2, none⟩ (.slice (some ⟨gg, 0, none⟩) (cur.length + 1) cap)) := (Keep.refl _ _).setCell _ _ (Or.inl (by simp))
  have ho6 := own_setk ho5 (vs.length * 2) (.slice (some ⟨gg, 0, none⟩) (cur.length + 1) cap)
  rw [linC_set] at ho6
  have hc6 := own_keep hown hk2 (fun b hb => by simp [Value.ownBlock] at hb; subst hb; simpa using hgo)
  obtain ⟨w6, hw6⟩ : ∃ w6, w6 = w5.setCell ⟨go, vs.length * 2, none⟩ (.slice (some ⟨gg, 0, none⟩) (cur.length + 1) cap) := ⟨_, rfl⟩
  rw [← hw6] at hk2 ho6 hc6 ⊢
  have hk3 : Keep [gg] w6 (w6.setCell ⟨gg, cur.length * 2, none⟩ (.string (S [c]))) := (Keep.refl _ _).setCell _ _ (Or.inl (by simp))
  have hk4 : Keep [gg] w6 (w6.setCell ⟨gg, cur.length * 2, none⟩ (.string (S [c]))).drew := hk3.drewN 1
  have hngg : ∀ i, i < vs.length → ∀ b, (vs.getD i undef).ownBlock = some b → b ≠ gg ∧ b ≠ go ∧ vc.ownBlock ≠ some b := fun i hi b hb => by
    refine ⟨fun e => ?_, fun e => own_apart (h.rows i hi) h.out (by decide) b hb (by rw [e]; rfl), h.ne i hi b hb⟩
    subst e
    rcases hat with h1 | h1
    · exact h.ne i hi b hb h1
    · have := (own_block (h.rows i hi) b hb).2
      omega
  have b5 : Below w0.heap.size w0 w5 := h.bel.trans (hk.below h.bel.size (fun b hb => (own_block hcur b (hmem b hb)).1))
  have b6 : Below w0.heap.size w0 w6 := b5.trans (hk2.below b5.size (by simpa using hgob))
  refine ⟨⟨b6.trans (hk4.below b6.size (by simpa using hgb)), h.len, own_keep ho6 hk4 (fun b hb => by simp [Value.ownBlock] at hb; subst hb; simpa using Ne.symm hgo), fun i hi => own_keep (own_keep (own_keep (h.rows i hi) hk (fun b hb hc => (hngg i hi b hb).2.2 (hmem b hc))) hk2 (fun b hb => by simpa using (hngg i hi b hb).2.1)) hk4 (fun b hb => by simpa using (hngg i hi b hb).1), ?_, fun i hi b hb e => ?_, fun l hl => ?_, by have := h.lb; simp only at this ⊢; omega, fun _ => by simp⟩, ?_, ?_, (own_some hc6 (cur.length * 2) (by omega)).2, (own_block ho6 go rfl).2, (own_block hc6 gg rfl).2⟩
  · have h1 := own_setk hc6 (cur.length * 2) (.string (S [c]))
    have e1 : (tkC cur ++ [Value.string ⟨#[]⟩, Value.int .i64 (n : Int)]).set (cur.length * 2) (Value.string (S [c])) = tkC (cur ++ [([c], n)]) := by
      rw [tkC_snoc, List.set_append_right _ _ (by rw [tkC_len]; exact Nat.le_refl _), tkC_len, Nat.sub_self]
      rfl
    rw [e1] at h1
    have h2 := own_keep h1 (Keep.drewN (Keep.refl [] _) 1) (by simp)
    show (w6.setCell ⟨gg, cur.length * 2, none⟩ (.string (S [c]))).drew.ownsRow w0.heap.size 55 2 (.slice (some ⟨gg, 0, none⟩) (cur.length + 1) cap) (cur ++ [([c], n)]).length (tkC (cur ++ [([c], n)]))
    rw [List.length_append]
    exact h2
  · simp [Value.ownBlock] at e
    exact (hngg i hi b hb).1 e.symm
  · simp only [List.mem_append, List.mem_singleton] at hl
    have hold := h.ok cur (by simp)
    rcases hl with hl | rfl
    · obtain ⟨j1, j2⟩ := h.ok l (by simp [hl])
      exact ⟨by omega, fun x hx => ⟨by have := (j2 x hx).1; omega, by have := (j2 x hx).2.1; omega, (j2 x hx).2.2⟩⟩
    · refine ⟨by simp only [List.length_append, List.length_singleton]; omega, fun x hx => ?_⟩
      simp only [List.mem_append, List.mem_singleton] at hx
      rcases hx with hx | rfl
      · obtain ⟨k1, k2, k3⟩ := hold.2 x hx
        exact ⟨by omega, by omega, k3⟩
      · exact ⟨by simp, by simp, by simp⟩
  · have := own_cells ho6 (vs.length * 2) _ (linC_get (vs ++ [.slice (some ⟨gg, 0, none⟩) (cur.length + 1) cap]) vs.length (by simp))
    rw [getD_app_last] at this
    exact this
  · refine own_cells hc6 (cur.length * 2) _ ?_
    rw [List.getElem?_append_right (by rw [tkC_len]; exact Nat.le_refl _), tkC_len, Nat.sub_self]
    rfl
theorem own_some_at {w : World} {base n : Nat} {oa : Option Addr} {k oc : Nat} {t : TypeId} {sz : Nat} {xs : List Value} (h : w.ownsRow base t sz (.slice oa k oc) n xs) (hn : 0 < n) : ∃ g, oa = some ⟨g, 0, none⟩ := by
  rcases h.2 with ⟨_, h0⟩ | ⟨g, cap, cur, e, _⟩
  · omega
  · injection e with e
    exact ⟨g, e⟩
theorem own_slice_at {w : World} {base n : Nat} {v : Value} {t : TypeId} {sz : Nat} {xs : List Value} (h : w.ownsRow base t sz v n xs) (hn : 0 < n) : ∃ g cap, v = .slice (some ⟨g, 0, none⟩) n cap := by
  rcases h.2 with ⟨_, h0⟩ | ⟨g, cap, cur, e, _⟩
  · omega
  · exact ⟨g, cap, e⟩
theorem piece_one (s : ByteArray) (i : Nat) (hi : i < s.size) (c : UInt8) (hc : s[i] = c) : s.extract (i : Int).toNat ((i : Int) + 1).toNat = S [c] := by
  have e1 : (i : Int).toNat = i := by omega
  have e2 : ((i : Int) + 1).toNat = i + 1 := by omega
  rw [e1, e2]
  apply ByteArray.ext
  rw [ByteArray.data_extract]
  show s.data.extract i (i + 1) = #[c]
  have hi' : i < s.data.size := hi
  apply Array.ext
  · simp; omega
  · intro j h1 h2
    simp at h2
    subst h2
    simp only [Array.getElem_extract, Nat.add_zero]
    exact hc
theorem ll_wr {n : Nat} (h : n + 1 ≤ 20000000) : IntKind.i64.wrap (n : Int) = (n : Int) := by rw [IntKind.wrap_i64]; omega
theorem ll_wi {n i : Nat} (hn : n ≤ 20000000) (h : i < n) : IntKind.i64.wrap ((i : Int) + 1) = (i : Int) + 1 := by rw [IntKind.wrap_i64]; omega
theorem ll_meas {n i : Nat} (h : i < n) : n - (i + 1) < n - i := by omega
theorem ll_wrap {n i : Nat} (hn : n ≤ 20000000) (h : i < n) : wrap64 ((i : Int) + 1) = ((i + 1 : Nat) : Int) := by unfold wrap64; omega
theorem ll_ne {c d : UInt8} {k : Nat} (h : c ≠ d) (hk : d.toNat = k) : ((c.toNat : Int) == (k : Int)) = false := by
  simp only [beq_eq_false_iff_ne, ne_eq]
  intro e
  exact h (UInt8.toNat_inj.1 (by omega))
set_option maxRecDepth 100000 in
set_option maxHeartbeats 1000000 in
theorem rlines_any (s : ByteArray) (hs : s.size ≤ 20000000) (w : World) : Calls Tryd.prog 15 #[.string s] w fun e w' => ∃ v vs vc, e = .returned v ∧ LnV w w' (scanS ⟨[], [], false, false⟩ 0 s.data.toList) s.size v vs vc := by
  obtain ⟨st0, hst0⟩ : ∃ st0 : LS, st0 = ⟨[], [], false, false⟩ := ⟨_, rfl⟩
  obtain ⟨l, hl⟩ : ∃ l, s.data.toList = l := ⟨_, rfl⟩
  have hll : l.length = s.size := by rw [← hl]; exact ba_len s
  have HBY : Hid (∀ i (hi : i < s.size), ∃ c : UInt8, s[i] = c ∧ scanS st0 0 (l.take (i + 1)) = stepS (scanS st0 0 (l.take i)) i c) := fun i hi => by
    have h1 := ba_at s i hi
    rw [hl, List.getElem?_eq_getElem (by omega)] at h1
    injection h1 with h1
    exact ⟨_, h1.symm, scan_next l i (by omega) st0⟩
  have HAL : Hid (l.take s.size = l) := by rw [Hid, ← hll, List.take_length]
  have HF : Hid (∀ (o : Obj), o = .cells #[.slice none 0 0, .string ⟨#[]⟩] 51 → LnV w (w.alloc o) (scanS st0 0 (l.take 0)) 0 (.slice (some ⟨w.heap.size, 0, none⟩) 1 1) [] (.slice none 0 0)) := fun o ho => by
    rw [ho, hst0]
    have hr : (w.alloc (.cells #[.slice none 0 0, .string ⟨#[]⟩] 51)).ownsRow w.heap.size 51 2 (.slice (some ⟨w.heap.size, 0, none⟩) 1 1) 1 [.slice none 0 0, .string ⟨#[]⟩] := ⟨rfl, Or.inr ⟨w.heap.size, 1, _, rfl, Nat.le_refl _, heap_alloc_new _ _, by omega, by unfold maxLen; omega, rfl, rfl⟩⟩
    exact ⟨below_a1 _ _, rfl, hr, fun i hi => by simp at hi, World.ownsRow_nil _ _ _ _, fun i hi => by simp at hi, fun l hl => by simp [scanS] at hl; subst hl; simp, by simp [scanS], fun e => by cases e⟩
  rw [hl, ← hst0]
  have HS0 : Hid (st0 = ⟨[], [], false, false⟩) := hst0
  clear hl hll hst0
  obtain ⟨i0, hi0, hz0, hz1, hz2⟩ := info_parts info_line
  go_enter Tryd.func15, Tryd.ntmps15
  go_wp2_with fail
  have HF0 := HF.out _ rfl
  generalize w.alloc (.cells #[.slice none 0 0, .string ⟨#[]⟩] 51) = wa at *
  have HF1 : Hid (LnV w wa (scanS st0 0 (l.take 0)) 0 (.slice (some ⟨w.heap.size, 0, none⟩) 1 1) [] (.slice none 0 0) ∧ (scanS st0 0 (l.take 0)).inn = false ∧ (scanS st0 0 (l.take 0)).rem = false) := ⟨HF0, by rw [List.take_zero, HS0.out]; rfl, by rw [List.take_zero, HS0.out]; rfl⟩
  clear HF0 HF
  go_loopg [3, 4, 5, 6] s.size (fun gh ov nv rv iv wr => ∃ (i : Nat) (vs : List Value) (vc : Value), gh = s.size - i ∧ i ≤ s.size ∧ iv = .int .i64 (i : Int) ∧ nv = .bool (scanS st0 0 (l.take i)).inn ∧ rv = .bool (scanS st0 0 (l.take i)).rem ∧ LnV w wr (scanS st0 0 (l.take i)) i ov vs vc)
  case atStart => exact ⟨0, [], _, by omega, by omega, rfl, by rw [HF1.out.2.1], by rw [HF1.out.2.2], HF1.out.1⟩
  case round =>
    obtain ⟨i, vs, vc, rfl, hi, rfl, rfl, rfl, hln⟩ := hrel
    have HLN : Hid (LnV w wr (scanS st0 0 (l.take i)) i u3 vs vc) := hln
    by_cases hlt : i < s.size
    · have hd : decide ((i : Int) < (s.size : Int)) = true := by simp; omega
      obtain ⟨c, hc, hnx⟩ := HBY.out i hlt
      have HNX : Hid (scanS st0 0 (l.take (i + 1)) = stepS (scanS st0 0 (l.take i)) i c) := hnx
      clear hln hnx
      generalize scanS st0 0 (l.take i) = st at *
      obtain ⟨ls, cur, inn, rem⟩ := st
      simp only
      have hix : ∀ w : World, (Instr.index 9 (.string s) (.int .i64 (i : Int))).run Tryd.prog w = .ok (.int .u8 (c.toNat : Int)) w := fun w => by
        rw [run_index_string w 9 s .i64 (i : Int) Tryd.underlying9, dif_pos ⟨by omega, by omega⟩]
        simp only [Int.toNat_natCast]
        rw [hc]
      have HIW : Hid (wrap64 ((i : Int) + 1) = ((i + 1 : Nat) : Int)) := ll_wrap hs hlt
      obtain ⟨oa, oc, rfl⟩ := own_slice HLN.out.out
      have HC : Hid (s[i] = c) := hc
      clear hc HBY
      by_cases h10 : c = 10
      · subst h10
        have HSN : Hid (scanS st0 0 (l.take (i + 1)) = ⟨ls ++ [cur], [], false, false⟩) := by rw [Hid, HNX.out]; simp [stepS]
        have hvl : vs.length ≤ 20000000 := by have h1 := HLN.out.len; have h2 := HLN.out.lb; simp only at h1 h2; omega
        have hsz : w.heap.size ≤ wr.heap.size := HLN.out.bel.size
        have HOO : Hid (wr.ownsRow w.heap.size 51 2 (.slice oa (vs.length + 1) oc) (vs.length + 1) (linC (vs ++ [vc]))) := HLN.out.out
        have hix' : ∀ w : World, (Instr.index 9 (.string s) (.int .i64 (i : Int))).run Tryd.prog w = .ok (.int .u8 10) w := hix
        clear hix HNX
        go_wp2_with (at_builtin; refine list_lies_wide _ rfl _ _ 46 rfl w.heap.size 51 i0 _ 2 40 Tryd.underlying46 hi0 hz0 hz1 hz2 rfl (by decide) _ _ _ rfl (HOO.out.alloc _) ⟨wr.heap.size, 0, none⟩ 1 1 [.slice none 0 0, .string ⟨#[]⟩] rfl rfl (World.news_of_block (cs := #[.slice none 0 0, .string ⟨#[]⟩]) (t := 51) (fr := (0, 0)) (heap_alloc_new wr _)) (by simp [Value.oneCell']) (by decide) (by unfold maxLen; omega) (by omega) (by simp; omega) _ rfl ?_)
        intro g cp w5 hown' hgrow hat _
        have HL5 : Hid (LnV w w5 ⟨ls ++ [cur], [], false, false⟩ (i + 1) (.slice (some ⟨g, 0, none⟩) (vs.length + 1 + 1) cp) (vs ++ [vc]) (.slice none 0 0)) := HLN.out.line hown' hgrow
        clear hown' hgrow hat HOO
        go_wp2_with fail
        go_roundg (s.size - (i + 1))
        case rel => exact ⟨i + 1, _, _, rfl, hlt, by first | rw [HIW.out] | go_num, by rw [HSN.out], by rw [HSN.out], by rw [HSN.out]; exact HL5.out⟩
        case measure => exact ll_meas hlt
      · have e10 : ((c.toNat : Int) == 10) = false := ll_ne h10 (by decide)
        by_cases h35 : c = 35
        · subst h35
          have hix' : ∀ w : World, (Instr.index 9 (.string s) (.int .i64 (i : Int))).run Tryd.prog w = .ok (.int .u8 35) w := hix
          have HSN : Hid (scanS st0 0 (l.take (i + 1)) = ⟨ls, cur, false, true⟩) := by rw [Hid, HNX.out]; simp [stepS]
          clear hix HNX e10 h10
          go_wp2_with fail
          go_roundg (s.size - (i + 1))
          case rel => exact ⟨i + 1, vs, vc, rfl, hlt, by first | rw [HIW.out] | go_num, by rw [HSN.out], by rw [HSN.out], by rw [HSN.out]; exact HLN.out.idle (Below.refl _ _) rfl rfl rfl⟩
          case measure => exact ll_meas hlt
        · have e35 : ((c.toNat : Int) == 35) = false := ll_ne h35 (by decide)
          cases rem with
          | true =>
            have HSN : Hid (scanS st0 0 (l.take (i + 1)) = ⟨ls, cur, false, true⟩) := by rw [Hid, HNX.out]; simp [stepS, h10]
            generalize (c.toNat : Int) = cb at *
            clear HNX h10 h35
            go_wp2_with fail
            go_roundg (s.size - (i + 1))
            case rel => exact ⟨i + 1, vs, vc, rfl, hlt, by first | rw [HIW.out] | go_num, by rw [HSN.out], by rw [HSN.out], by rw [HSN.out]; exact HLN.out.idle (Below.refl _ _) rfl rfl rfl⟩
            case measure => exact ll_meas hlt
          | false =>
            by_cases hb : isB c = true
            · have HSN : Hid (scanS st0 0 (l.take (i + 1)) = ⟨ls, cur, false, false⟩) := by rw [Hid, HNX.out]; simp [stepS, h10, h35, hb]
              have hb2 : c = 32 ∨ c = 9 := by simpa [isB] using hb
              clear HNX h10 h35 hb e10 e35
              rcases hb2 with rfl | rfl
              · have hix' : ∀ w : World, (Instr.index 9 (.string s) (.int .i64 (i : Int))).run Tryd.prog w = .ok (.int .u8 32) w := hix
                clear hix
                go_wp2_with fail
                go_roundg (s.size - (i + 1))
                case rel => exact ⟨i + 1, vs, vc, rfl, hlt, by first | rw [HIW.out] | go_num, by rw [HSN.out], by rw [HSN.out], by rw [HSN.out]; exact HLN.out.idle (Below.refl _ _) rfl rfl rfl⟩
                case measure => exact ll_meas hlt
              · have hix' : ∀ w : World, (Instr.index 9 (.string s) (.int .i64 (i : Int))).run Tryd.prog w = .ok (.int .u8 9) w := hix
                clear hix
                go_wp2_with fail
                go_roundg (s.size - (i + 1))
                case rel => exact ⟨i + 1, vs, vc, rfl, hlt, by first | rw [HIW.out] | go_num, by rw [HSN.out], by rw [HSN.out], by rw [HSN.out]; exact HLN.out.idle (Below.refl _ _) rfl rfl rfl⟩
                case measure => exact ll_meas hlt
            · have hb' : isB c = false := by simpa using hb
              have e32 : ((c.toNat : Int) == 32) = false := ll_ne (d := 32) (fun e => hb (by rw [e]; rfl)) (by decide)
              have e9 : ((c.toNat : Int) == 9) = false := ll_ne (d := 9) (fun e => hb (by rw [e]; rfl)) (by decide)
              cases inn with
              | true =>
                have HSN : Hid (scanS st0 0 (l.take (i + 1)) = ⟨ls, addL cur c, true, false⟩) := by rw [Hid, HNX.out]; simp [stepS, h10, h35, hb']
                obtain ⟨cs, t, q, hcur⟩ : ∃ cs t q, cur = cs ++ [(t, q)] := by
                  have := HLN.out.inn rfl
                  rcases List.eq_nil_or_concat cur with h | ⟨cs, x, h⟩
                  · exact absurd h this
                  · exact ⟨cs, x.1, x.2, by simpa using h⟩
                subst hcur
                rw [addL_snoc] at HSN
                obtain ⟨go, hgo⟩ := own_some_at HLN.out.out (by omega)
                subst hgo
                obtain ⟨gt, tc, hvc⟩ := own_slice_at HLN.out.cur (by simp)
                subst hvc
                have HCK : Hid (wr.ownsRow w.heap.size 55 2 (.slice (some ⟨gt, 0, none⟩) (cs.length + 1) tc) (cs.length + 1) (tkC (cs ++ [(t, q)]))) := by have h1 : wr.ownsRow w.heap.size 55 2 (.slice (some ⟨gt, 0, none⟩) (cs ++ [(t, q)]).length tc) (cs ++ [(t, q)]).length (tkC (cs ++ [(t, q)])) := HLN.out.cur; rw [List.length_append] at h1; exact h1
                have hx0 : wr.cell? ⟨go, vs.length * 2, none⟩ = some (.slice (some ⟨gt, 0, none⟩) (cs.length + 1) tc) := by
                  have := own_cells HLN.out.out (vs.length * 2) _ (linC_get (vs ++ [.slice (some ⟨gt, 0, none⟩) (cs ++ [(t, q)]).length tc]) vs.length (by simp))
                  rw [getD_app_last] at this
                  simpa using this
                have hy0 : wr.cell? ⟨gt, cs.length * 2, none⟩ = some (.string (S t)) := by
                  have := own_cells HCK.out (cs.length * 2) _ (tkC_get (cs ++ [(t, q)]) cs.length (by simp)).1
                  rw [getD_app_last] at this
                  exact this
                have hf0 : wr.frozen? ⟨gt, cs.length * 2, none⟩ = false := (own_some HCK.out (cs.length * 2) (by omega)).2
                have ea1 := ad_own go (vs.length * 2)
                have ea2 := ad_own gt (cs.length * 2)
                have hbt : t.length ≤ 20000000 ∧ cs.length + 1 ≤ 20000000 := by
                  obtain ⟨j1, j2⟩ := HLN.out.ok (cs ++ [(t, q)]) (by simp)
                  have h3 := (j2 (t, q) (by simp)).1
                  simp only [List.length_append, List.length_singleton] at j1
                  simp only at h3
                  omega
                have hvl : vs.length ≤ 20000000 := by have h1 := HLN.out.len; have h2 := HLN.out.lb; simp only at h1 h2; omega
                have hgl : go < wr.heap.size ∧ gt < wr.heap.size := ⟨(own_block HLN.out.out go rfl).2, (own_block HCK.out gt rfl).2⟩
                obtain ⟨P, hP⟩ : ∃ P, S [c] = P := ⟨_, rfl⟩
                have hsl : ∀ w : World, (Instr.slice 9 (.string s) (some (.int .i64 (i : Int))) (some (.int .i64 ((i : Int) + 1))) none).run Tryd.prog w = .ok (.string P) w := fun w => by
                  rw [run_slice_string w 9 s .i64 .i64 (i : Int) ((i : Int) + 1) Tryd.underlying9 (by omega) (by omega) (by omega), ← hP]
                  rw [piece_one s i hlt c HC.out]
                obtain ⟨R, hR⟩ : ∃ R, S (t ++ [c]) = R := ⟨_, rfl⟩
                have hcat : ∀ w : World, (Op.stringOp .add (S t) P).run Tryd.prog w = .ok (.string R) w := fun w => by
                  rw [← hP, ← hR, ← S_app]
                  exact run_string_add_sum w _ _ (by rw [S_size, S_size]; simp; omega)
                have HL5 : Hid (LnV w (wr.setCell ⟨gt, cs.length * 2, none⟩ (.string R)).drew ⟨ls, cs ++ [(t ++ [c], q)], true, false⟩ (i + 1) (.slice (some ⟨go, 0, none⟩) (vs.length + 1) oc) vs (.slice (some ⟨gt, 0, none⟩) (cs ++ [(t, q)]).length tc)) := by rw [← hR]; exact HLN.out.text c
                generalize hSt : S t = tS at hy0 hcat
                have hw1 : wrap64 ((i : Int) + 1) = (i : Int) + 1 := by rw [HIW.out]; omega
                obtain ⟨hgl1, hgl2⟩ := hgl
                generalize (c.toNat : Int) = cb at *
                clear HNX h10 h35 hb hb' HCK hP hR hSt hi
                generalize hnv : vs.length = nv at *
                generalize hnc : cs.length = nc at *
                have hwc : IntKind.i64.wrap (nc : Int) = (nc : Int) := ll_wr hbt.2
                have hwi : IntKind.i64.wrap ((i : Int) + 1) = (i : Int) + 1 := ll_wi hs hlt
                go_wp2_with fail
                go_region
                go_wp2_with fail
                go_roundg (s.size - (i + 1))
                case rel => exact ⟨i + 1, vs, _, rfl, hlt, by first | rw [HIW.out] | go_num, by rw [HSN.out], by rw [HSN.out], by rw [HSN.out]; exact HL5.out⟩
                case measure => exact ll_meas hlt
              | false =>
                have HSN : Hid (scanS st0 0 (l.take (i + 1)) = ⟨ls, cur ++ [([c], i)], true, false⟩) := by rw [Hid, HNX.out]; simp [stepS, h10, h35, hb']
                obtain ⟨go, hgo⟩ := own_some_at HLN.out.out (by omega)
                subst hgo
                obtain ⟨ta, tc, hvc⟩ := own_slice HLN.out.cur
                have HCK : Hid (wr.ownsRow w.heap.size 55 2 (.slice ta cur.length tc) cur.length (tkC cur)) := by have h1 : wr.ownsRow w.heap.size 55 2 vc cur.length (tkC cur) := HLN.out.cur; rw [hvc] at h1; exact h1
                have hx0 : wr.cell? ⟨go, vs.length * 2, none⟩ = some (.slice ta cur.length tc) := by
                  have := own_cells HLN.out.out (vs.length * 2) _ (linC_get (vs ++ [vc]) vs.length (by simp))
                  rw [getD_app_last, hvc] at this
                  exact this
                have hf0 : wr.frozen? ⟨go, vs.length * 2, none⟩ = false := (own_some HLN.out.out (vs.length * 2) (by omega)).2
                have ea1 := ad_own go (vs.length * 2)
                have hbt : cur.length + 1 ≤ 20000000 := by
                  obtain ⟨j1, j2⟩ := HLN.out.ok cur (by simp)
                  omega
                have hvl : vs.length ≤ 20000000 := by have h1 := HLN.out.len; have h2 := HLN.out.lb; simp only at h1 h2; omega
                have hgl : go < wr.heap.size := (own_block HLN.out.out go rfl).2
                have hne : (Value.slice ta cur.length tc).ownBlock ≠ some go := fun e => own_apart HLN.out.out HCK.out (by decide) go rfl e
                have hsz : w.heap.size ≤ wr.heap.size := HLN.out.bel.size
                obtain ⟨P, hP⟩ : ∃ P, S [c] = P := ⟨_, rfl⟩
                have hsl : ∀ w : World, (Instr.slice 9 (.string s) (some (.int .i64 (i : Int))) (some (.int .i64 ((i : Int) + 1))) none).run Tryd.prog w = .ok (.string P) w := fun w => by
                  rw [run_slice_string w 9 s .i64 .i64 (i : Int) ((i : Int) + 1) Tryd.underlying9 (by omega) (by omega) (by omega), ← hP]
                  rw [piece_one s i hlt c HC.out]
                have hcat : ∀ w : World, (Op.stringOp .add ⟨#[]⟩ P).run Tryd.prog w = .ok (.string P) w := fun w => by
                  have h1 : (⟨#[]⟩ : ByteArray) = S [] := rfl
                  rw [← hP, h1]
                  have h2 := run_string_add_sum (P := Tryd.prog) w (S []) (S [c]) (by rw [S_size, S_size]; simp)
                  rw [S_app] at h2
                  exact h2
                have HTK : Hid (∀ (o : Obj) (w5 : World) (gg cap : Nat), w5.ownsRow w.heap.size 55 2 (.slice (some ⟨gg, 0, none⟩) (cur.length + 1) cap) (cur.length + 1) (tkC cur ++ [.string ⟨#[]⟩, .int .i64 (i : Int)]) → (wr.alloc o).grownBy w5 (Value.slice ta cur.length tc).ownBlock → ((Value.slice ta cur.length tc).ownBlock = some gg ∨ gg = wr.heap.size + 1) → LnV w ((w5.setCell ⟨go, vs.length * 2, none⟩ (.slice (some ⟨gg, 0, none⟩) (cur.length + 1) cap)).setCell ⟨gg, cur.length * 2, none⟩ (.string P)).drew ⟨ls, cur ++ [([c], i)], true, false⟩ (i + 1) (.slice (some ⟨go, 0, none⟩) (vs.length + 1) oc) vs (.slice (some ⟨gg, 0, none⟩) (cur.length + 1) cap) ∧
                    ((w5.setCell ⟨go, vs.length * 2, none⟩ (.slice (some ⟨gg, 0, none⟩) (cur.length + 1) cap)).cell? ⟨go, vs.length * 2, none⟩ = some (.slice (some ⟨gg, 0, none⟩) (cur.length + 1) cap) ∧ (w5.setCell ⟨go, vs.length * 2, none⟩ (.slice (some ⟨gg, 0, none⟩) (cur.length + 1) cap)).cell? ⟨gg, cur.length * 2, none⟩ = some (.string ⟨#[]⟩) ∧ (w5.setCell ⟨go, vs.length * 2, none⟩ (.slice (some ⟨gg, 0, none⟩) (cur.length + 1) cap)).frozen? ⟨gg, cur.length * 2, none⟩ = false ∧ go < (w5.setCell ⟨go, vs.length * 2, none⟩ (.slice (some ⟨gg, 0, none⟩) (cur.length + 1) cap)).heap.size ∧ gg < (w5.setCell ⟨go, vs.length * 2, none⟩ (.slice (some ⟨gg, 0, none⟩) (cur.length + 1) cap)).heap.size)) := fun o w5 gg cap h1 h2 h3 => by
                  rw [← hP]
                  have h4 := HLN.out
                  rw [hvc] at h4
                  exact h4.tok h1 h2 h3 c
                have hw1 : wrap64 ((i : Int) + 1) = (i : Int) + 1 := by rw [HIW.out]; omega
                obtain ⟨i2, hi2, hy0, hy1, hy2⟩ := info_parts info_tok
                generalize (c.toNat : Int) = cb at *
                clear HNX h10 h35 hb hb' hP hi hvc HLN
                generalize hnv : vs.length = nv at *
                generalize hnc : cur.length = nc at *
                generalize tkC cur = xs at *
                have hwc : IntKind.i64.wrap (nc : Int) = (nc : Int) := ll_wr hbt
                have hwi : IntKind.i64.wrap ((i : Int) + 1) = (i : Int) + 1 := ll_wi hs hlt
                go_wp2_with (at_builtin; refine list_lies_wide _ rfl _ _ 43 rfl w.heap.size 55 i2 _ 2 24 Tryd.underlying43 hi2 hy0 hy1 hy2 rfl (by decide) _ _ _ rfl (HCK.out.alloc _) ⟨wr.heap.size, 0, none⟩ 1 1 [.string ⟨#[]⟩, .int .i64 (i : Int)] rfl rfl (World.news_of_block (cs := #[.string ⟨#[]⟩, .int .i64 (i : Int)]) (t := 55) (fr := (0, 0)) (heap_alloc_new wr _)) (by simp [Value.oneCell']) (by decide) (by unfold maxLen; omega) (by omega) (by simp; omega) _ rfl ?_)
                intro gg cap' w5 hown1 hgrow hat hlt1
                have hs1 : w5.cell? ⟨go, nv * 2, none⟩ = some (.slice ta nc tc) := by rw [hgrow.cell_far _ (by simp; omega) (Ne.symm hne)]; simp [hgl, World.cell?_alloc_past, hx0]
                have hs2 : w5.frozen? ⟨go, nv * 2, none⟩ = false := by rw [hgrow.frozen_far _ (by simp; omega) (Ne.symm hne), World.frozen?_alloc_past _ _ _ hgl]; exact hf0
                obtain ⟨k1, k2, k3, k4, k5, k6⟩ := HTK.out _ w5 gg cap' hown1 hgrow hat
                obtain ⟨w6, hw6⟩ : ∃ w6, w6 = w5.setCell ⟨go, nv * 2, none⟩ (.slice (some ⟨gg, 0, none⟩) (nc + 1) cap') := ⟨_, rfl⟩
                rw [← hw6] at k1 k2 k3 k4 k5 k6
                have HK1 : Hid (LnV w (w6.setCell ⟨gg, nc * 2, none⟩ (.string P)).drew ⟨ls, cur ++ [([c], i)], true, false⟩ (i + 1) (.slice (some ⟨go, 0, none⟩) (nv + 1) oc) vs (.slice (some ⟨gg, 0, none⟩) (nc + 1) cap')) := k1
                have HW6 : Hid (w6 = w5.setCell ⟨go, nv * 2, none⟩ (.slice (some ⟨gg, 0, none⟩) (nc + 1) cap')) := hw6
                have ea2 := ad_own gg (nc * 2)
                have hl5 : go < w5.heap.size := by have := k5; rw [hw6] at this; simpa using this
                clear hown1 hgrow hat hlt1 k1 hw6 HTK HCK hx0 hf0 hgl hi2 hy0 hy1 hy2 hne hsz
                go_wp2_with fail
                rw [← HW6.out]
                clear hs1 hs2 hl5
                go_region
                go_wp2_with fail
                go_roundg (s.size - (i + 1))
                case rel => exact ⟨i + 1, vs, _, rfl, hlt, by first | rw [HIW.out] | go_num, by rw [HSN.out], by rw [HSN.out], by rw [HSN.out]; exact HK1.out⟩
                case measure => exact ll_meas hlt
    · obtain rfl : i = s.size := by omega
      have hd : decide ((s.size : Int) < (s.size : Int)) = false := by simp
      clear hln HBY
      go_wp2_with fail
      go_ret
      rw [HAL.out] at HLN
      exact ⟨_, _, _, rfl, HLN.out⟩
end Go.Proofs.YtbjopdmchmekpaaDoor
