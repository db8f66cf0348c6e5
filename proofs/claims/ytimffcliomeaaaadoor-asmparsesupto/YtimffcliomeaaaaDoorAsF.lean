/- The document's Print. -/
import Derived.Test.YtimffcliomeaaaaDoorAsE
import Derived.Test.YtimffcliomeaaaaDoorAsD
import Derived.Deep.CutBlock
import Derived.Deep.RegionWith
import Derived.Deep.DeepCutAuto
namespace Go.Proofs.YtimffcliomeaaaaDoor
open Go.ChangeShapes Go.WideShapes Go.ChangeAt Go.RowKit

def wordsC : List Value := wordT.map fun b => Value.string (S b)
set_option maxRecDepth 100000 in
theorem words_any (w : World) : Calls Tryd.prog 29 #[] w fun e w' => ∃ v, e = .returned v ∧ w'.ownsRow w.heap.size 9 1 v 41 wordsC ∧ Below w.heap.size w w' := by
  go_enter Tryd.func29, Tryd.ntmps29
  go_wp2
  go_ret
  exact ⟨_, rfl, ⟨rfl, Or.inr ⟨_, _, _, rfl, Nat.le_refl _, heap_alloc_new _ _, Nat.le_refl _, by decide, rfl, rfl⟩⟩, below_a1 _ _⟩
theorem own_apart {w : World} {b1 b2 : Nat} {e1 e2 : TypeId} {s1 s2 n1 n2 : Nat} {v1 v2 : Value} {x1 x2 : List Value} (h1 : w.ownsRow b1 e1 s1 v1 n1 x1) (h2 : w.ownsRow b2 e2 s2 v2 n2 x2) (ht : e1 ≠ e2) : ∀ b, v1.ownBlock = some b → v2.ownBlock ≠ some b := fun b hb => by
  rcases h1.2 with ⟨e, _⟩ | ⟨g, cap, cur, e, _, hg, _⟩
  · rw [e] at hb; cases hb
  · rw [e] at hb
    obtain rfl : g = b := by simpa [Value.ownBlock] using hb
    exact own_ne h2 hg ht
/-- The document's list of instructions and of places under way. -/
structure DL (w0 : World) (l : List (Int × Int)) (vl : Value) (n : Nat) (vp : Value) (wx : World) : Prop where
  ol : wx.ownsRow w0.heap.size 53 2 vl l.length (opsC l)
  op : wx.ownsRow w0.heap.size 3 1 vp n (plcC l n)
  bel : Below w0.heap.size w0 wx
theorem DL.later {w0 : World} {l : List (Int × Int)} {vl : Value} {n : Nat} {vp : Value} {wx wy : World} (h : DL w0 l vl n vp wx) (hb : Below wx.heap.size wx wy) : DL w0 l vl n vp wy :=
  ⟨own_keep h.ol (Keep.of_below hb []) (by simp), own_keep h.op (Keep.of_below hb []) (by simp), below_then h.bel hb⟩
theorem DL.cells {w0 : World} {l : List (Int × Int)} {vl : Value} {n : Nat} {vp : Value} {wx : World} (h : DL w0 l vl n vp wx) (i : Nat) (hi : i < l.length) {s : ByteArray} (hp : Prg s l) :
    ∃ g cap, vl = .slice (some ⟨g, 0, none⟩) l.length cap ∧ wx.cell? ⟨g, i * 2, none⟩ = some (.int .i64 (cd l i : Int)) ∧ wx.cell? ⟨g, i * 2 + 1, none⟩ = some (.int .i64 (opd l i)) := by
  obtain ⟨g, cap, rfl⟩ := own_at h.ol (by omega)
  obtain ⟨h1, h2⟩ := opsC_get l i hi
  refine ⟨g, cap, rfl, ?_, own_cells h.ol _ _ h2⟩
  rw [own_cells h.ol _ _ h1]
  have := (hp.cd_ok i hi).2.1
  unfold ops at this
  rw [this]
theorem info_intD : (Tryd.prog.info? 3).map (fun i => (i.zero, i.size, i.bytes)) = some (some (.int .i64 0), 1, 8) := by kernel_rfl
theorem DL.grow {w0 : World} {l : List (Int × Int)} {vl : Value} {n : Nat} {vp v' : Value} {wx wy : World} (h : DL w0 l vl n vp wx) (h1 : wy.ownsRow w0.heap.size 3 1 v' (n + 1) (plcC l n ++ [.int .i64 (pos l n : Int)])) (h2 : wx.grownBy wy vp.ownBlock) : DL w0 l vl (n + 1) v' wy :=
  ⟨h.ol.kept h2 (by
      cases e : vl.ownBlock with
      | none => exact Or.inl rfl
      | some b => exact Or.inr fun e2 => own_apart h.ol h.op (by decide) b e (by rw [← e2])),
    by rw [plcC_succ]; exact h1, h.bel.grown h2 h.bel.size (fun b hb => (own_block h.op b hb).1)⟩
def mkC (f : Nat → Bool) (n : Nat) : List Value := (List.range n).map fun j => .bool (f j)
theorem mkC_len (f : Nat → Bool) (n : Nat) : (mkC f n).length = n := by simp [mkC]
theorem mkC_get (f : Nat → Bool) (n j : Nat) (h : j < n) : (mkC f n)[j]? = some (.bool (f j)) := by simp [mkC, h]
theorem mkC_set (f : Nat → Bool) (n k : Nat) (h : k < n) : (mkC f n).set k (.bool true) = mkC (fun j => if j = k then true else f j) n := by
  apply List.ext_getElem?
  intro j
  rw [List.getElem?_set]
  by_cases hj : j < n
  · by_cases e : k = j
    · subst e; simp [mkC, h]
    · simp [mkC, hj, e, show ¬ j = k from fun x => e x.symm]
  · rw [if_neg (by omega)]
    simp [mkC, hj]
theorem mkC_congr {f g : Nat → Bool} {n : Nat} (h : ∀ j, j < n → f j = g j) : mkC f n = mkC g n := by
  unfold mkC
  apply List.map_congr_left
  intro j hj
  rw [h j (by simpa using hj)]
theorem info_boolD : (Tryd.prog.info? 4).map (fun i => (i.zero, i.size, i.bytes)) = some (some (.bool false), 1, 1) := by kernel_rfl
theorem make_bools (w : World) (n : Nat) (hn : n ≤ 1000000) :
    (Instr.makeSlice 68 (.int .i64 (n : Int)) (.int .i64 (n : Int))).run Tryd.prog w = .ok (.slice (some ⟨w.heap.size, 0, none⟩) n n) (w.alloc (.cells (mkC (fun _ => false) n).toArray 4)) := by
  obtain ⟨i0, hi, hz0, hz1, hz2⟩ := info_parts info_boolD
  have := run_make (P := Tryd.prog) w 68 4 i0 _ Tryd.underlying68 hi hz0 .i64 .i64 (n : Int) (n : Int) (by omega) (by omega) (by rw [hz2]; omega) (by omega)
  rw [this]
  have e : (mkC (fun _ => false) n).toArray = madeCells (Value.cells (.bool false)) n := by
    apply Array.ext'
    unfold mkC madeCells
    rw [Array.toList_map, Array.toList_range]
    apply List.map_congr_left
    intro j _
    simp [Value.cells, Nat.mod_one]
  rw [e]
  simp [hz1]
/-- And what is marked. -/
structure DM (w0 : World) (l : List (Int × Int)) (vl vp vm : Value) (f : Nat → Bool) (n : Nat) (wx : World) : Prop where
  dl : DL w0 l vl l.length vp wx
  om : wx.ownsRow w0.heap.size 4 1 vm n (mkC f n)
theorem DM.later {w0 : World} {l : List (Int × Int)} {vl vp vm : Value} {f : Nat → Bool} {n : Nat} {wx wy : World} (h : DM w0 l vl vp vm f n wx) (hb : Below wx.heap.size wx wy) : DM w0 l vl vp vm f n wy :=
  ⟨h.dl.later hb, own_keep h.om (Keep.of_below hb []) (by simp)⟩
theorem own_stored {w : World} {base g n cap s : Nat} {e : TypeId} {xs : List Value} (h : w.ownsRow base e s (.slice (some ⟨g, 0, none⟩) n cap) n xs) (o : Nat) (v : Value) : (w.setCell ⟨g, o, none⟩ v).ownsRow base e s (.slice (some ⟨g, 0, none⟩) n cap) n (xs.set o v) := by
  refine ⟨by rw [List.length_set]; exact h.1, ?_⟩
  rcases h.2 with ⟨e, _⟩ | ⟨g', cap', cur, e, hb, hg, h1, h2, h3, h4⟩
  · cases e
  · simp at e
    obtain ⟨rfl, rfl⟩ := e
    refine Or.inr ⟨g, cap, cur.setIfInBounds o v, rfl, hb, heap_set hg o v, h1, h2, by simpa using h3, ?_⟩
    rw [← h4, Array.toList_setIfInBounds, List.take_set]
theorem DM.store {w0 : World} {l : List (Int × Int)} {vl vp : Value} {gm cap : Nat} {f : Nat → Bool} {n : Nat} {wx : World} (h : DM w0 l vl vp (.slice (some ⟨gm, 0, none⟩) n cap) f n wx) (k : Nat) (hk : k < n) :
    DM w0 l vl vp (.slice (some ⟨gm, 0, none⟩) n cap) (fun j => if j = k then true else f j) n (wx.setCell ⟨gm, k, none⟩ (.bool true)) := by
  have hK : Keep [gm] wx (wx.setCell ⟨gm, k, none⟩ (.bool true)) := (Keep.refl _ _).setCell _ _ (Or.inl (by simp))
  have hne : ∀ {e : TypeId} {sz m : Nat} {v : Value} {xs : List Value}, wx.ownsRow w0.heap.size e sz v m xs → e ≠ 4 → ∀ b, v.ownBlock = some b → b ∉ [gm] := fun ho ht b hb hm => by
    have hbm : b = gm := by simpa using hm
    rw [hbm] at hb
    exact own_apart ho h.om ht gm hb rfl
  refine ⟨⟨own_keep h.dl.ol hK (hne h.dl.ol (by decide)), own_keep h.dl.op hK (hne h.dl.op (by decide)), h.dl.bel.setCell (p := ⟨gm, k, none⟩) (own_block h.om gm rfl).1 _⟩, ?_⟩
  rw [← mkC_set _ _ _ hk]
  exact own_stored h.om k _
set_option maxRecDepth 100000 in
set_option maxHeartbeats 4000000 in
theorem rprint_yes {s : ByteArray} {l : List (Int × Int)} (h : Prg s l) {w : World} (hT : TabS w) : Calls Tryd.prog 12 #[.string s] w fun e w' => e = .returned (.tuple #[.string (S (prT l)), .int .i64 0]) ∧ Below w.heap.size w w' := by
  have hs5 : s.size ≤ 512 := h.small
  have hl5 := h.len
  have HD : Hid (Calls Tryd.prog 13 #[.string s] w fun e w' => ∃ v, e = .returned (.tuple #[v, .int .i64 0, .int .i64 0]) ∧ w'.ownsRow w.heap.size 53 2 v l.length (opsC l) ∧ Below w.heap.size w w') := (rdec_any s (by omega)).mono (fun e w' ⟨v, h1, h2, h3⟩ => ⟨v, by rw [h1, h.dec], by rw [h.dec] at h2; exact h2, h3⟩)
  have HT : Hid (TabS w) := hT
  have HP : Hid (Prg s l) := h
  clear hT h
  go_enter Tryd.func12, Tryd.ntmps12
  go_wp2_with fail
  refine HD.out.mono ?_
  rintro e w1 ⟨vl, rfl, hol, hb1⟩
  have HDL : Hid (DL w l vl 0 (.slice none 0 0) w1) := ⟨hol, World.ownsRow_nil _ _ _ _, hb1⟩
  obtain ⟨va, vc, rfl⟩ := own_slice hol
  clear hol hb1 HD
  go_upto_block 0 with fail
  go_cut [7] (fun s7 wx => DL w l (.slice va l.length vc) l.length s7 wx)
  case first =>
    go_wp2_with fail
    go_loopw [7, 8, 9] (fun u7 u8 u9 wr => ∃ i : Nat, i ≤ l.length ∧ u9 = .int .i64 (i : Int) ∧ u8 = .int .i64 (pos l i : Int) ∧ DL w l (.slice va l.length vc) i u7 wr) (fun _ _ u9 _ => l.length - (intOf u9).toNat)
    case atStart => exact ⟨0, by omega, rfl, by rw [pos_zero]; rfl, HDL.out⟩
    case round =>
      obtain ⟨i, hi, rfl, rfl, hx⟩ := hrel
      have HX : Hid (DL w l (.slice va l.length vc) i u7 wr) := hx
      obtain ⟨va7, vc7, rfl⟩ := own_slice hx.op
      clear hx
      by_cases hlt : i < l.length
      · have hd : decide ((i : Int) < (l.length : Int)) = true := by simp; omega
        have HX1 : Hid (DL w l (.slice va l.length vc) i (.slice va7 i vc7) (wr.alloc (.cells #[.int .i64 (pos l i : Int)] 3))) := HX.out.later (below_a1 _ _)
        have hsz1 : w.heap.size ≤ (wr.alloc (.cells #[.int .i64 (pos l i : Int)] 3)).heap.size := HX1.out.bel.size
        obtain ⟨i0, hi0, hz0, hz1, hz2⟩ := info_parts info_intD
        have hp5 := (HP.out.pos_le i hi).1
        go_wp2_with (at_builtin; refine wpList_append_own _ rfl _ _ 42 rfl w.heap.size 3 i0 _ 1 8 Tryd.underlying42 hi0 hz0 hz1 hz2 rfl (by decide) _ _ _ rfl HX1.out.op ⟨wr.heap.size, 0, none⟩ 1 1 [.int .i64 (pos l i : Int)] rfl rfl ?a1 ?a2 ?a3 ?a4 ?a5 ?_)
        case a1 => exact World.news_of_block (cs := #[.int .i64 (pos l i : Int)]) (t := 3) (fr := (0, 0)) (heap_alloc_new _ _)
        case a2 => intro u hu; simp at hu; rw [hu]; rfl
        case a3 => unfold maxLen; omega
        case a4 => omega
        case a5 => exact hsz1
        intro v2 w2 hown' hgrow _
        have HX2 : Hid (DL w l (.slice va l.length vc) (i + 1) v2 w2) := HX1.out.grow hown' hgrow
        clear hown' hgrow hi0 hz0 hz1 hz2 i0 HX HX1 hsz1
        obtain ⟨g, cap, hg, hc0, hc1⟩ := HX2.out.cells i hlt HP.out
        obtain ⟨rfl, rfl⟩ : va = some ⟨g, 0, none⟩ ∧ vc = cap := by simpa using hg
        have hq1 := (HP.out.cd_ok i hlt).1
        have hps := pos_succ l i hlt
        have hw8 := wd_cases (cd l i)
        have HW : Hid (∀ w, Calls Tryd.prog 27 #[.int .i64 (cd l i : Int)] w fun e w' => e = .returned (.int .i64 (wdC (cd l i) : Int)) ∧ w' = w) := rwidth_any _ hq1
        have hwr : wrap64 (wrap64 ((pos l i : Int) + 1) + (wdC (cd l i) : Int)) = (pos l (i + 1) : Int) := by rw [hps]; unfold wrap64; omega
        have hwr1 : wrap64 ((pos l i : Int) + 1) = (pos l i : Int) + 1 := by unfold wrap64; omega
        rw [hwr1] at hwr
        have hwi : wrap64 ((i : Int) + 1) = (i : Int) + 1 := by unfold wrap64; omega
        have HI : Hid (i < l.length) := hlt
        clear hg hw8 hps hq1
        generalize (wdC (cd l i) : Int) = n at *
        generalize (cd l i : Int) = c at *
        go_wp2_with fail
        refine (HW.out _).mono ?_
        rintro e w3 ⟨rfl, rfl⟩
        go_wp2
        go_roundw
        case rel =>
          refine ⟨i + 1, HI.out, by go_num, ?_, HX2.out⟩
          first | rfl | rw [hwr]
        case measure => exact meas_i HI.out
      · obtain rfl : i = l.length := by omega
        have hd : decide ((l.length : Int) < (l.length : Int)) = false := by simp
        go_wp2
        go_meet
        exact HX.out
  case rest =>
    have HX : Hid (DL w l (.slice va l.length vc) l.length u7 wc) := hcut
    obtain ⟨vp, pc, rfl⟩ := own_slice hcut.op
    clear hcut HDL
    obtain ⟨N, hN⟩ : ∃ N, s.size + 1 = N := ⟨_, rfl⟩
    have HN : Hid (s.size + 1 = N) := hN
    have hmk := make_bools wc N (by omega)
    rw [show (N : Int) = (s.size : Int) + 1 by omega] at hmk
    have hN5 : N ≤ 513 := by omega
    have HM : Hid (DM w l (.slice va l.length vc) (.slice vp l.length pc) (.slice (some ⟨wc.heap.size, 0, none⟩) N N) (fun _ => false) N (wc.alloc (.cells (mkC (fun _ => false) N).toArray 4))) :=
      ⟨HX.out.later (below_a1 _ _), ⟨by rw [mkC_len]; omega, Or.inr ⟨_, _, _, rfl, HX.out.bel.size, heap_alloc_new _ _, Nat.le_refl _, by unfold maxLen; omega, by simp [mkC_len], by rw [Nat.mul_one, List.take_of_length_le (by simp [mkC_len])]⟩⟩⟩
    obtain ⟨gm, hgm⟩ : ∃ gm, wc.heap.size = gm := ⟨_, rfl⟩
    obtain ⟨w2, hw2⟩ : ∃ w2, wc.alloc (.cells (mkC (fun _ => false) N).toArray 4) = w2 := ⟨_, rfl⟩
    rw [hgm, hw2] at HM hmk
    clear hgm hw2 hN
    go_upto_block 2 with fail
    go_cut [12] (fun _ wx => DM w l (.slice va l.length vc) (.slice vp l.length pc) (.slice (some ⟨gm, 0, none⟩) N N) (mkd l l.length) N wx)
    case first =>
      go_wp2_with fail
      go_loopw [11] (fun u wr => ∃ i : Nat, i ≤ l.length ∧ u = .int .i64 (i : Int) ∧ DM w l (.slice va l.length vc) (.slice vp l.length pc) (.slice (some ⟨gm, 0, none⟩) N N) (mkd l i) N wr) (fun u _ => l.length - (intOf u).toNat)
      case atStart =>
        refine ⟨0, by omega, rfl, ?_⟩
        have : mkd l 0 = fun _ => false := by
          funext j
          simp [mkd]
        rw [this]
        exact HM.out
      case round =>
        obtain ⟨i, hi, rfl, hx⟩ := hrel
        have HX2 : Hid (DM w l (.slice va l.length vc) (.slice vp l.length pc) (.slice (some ⟨gm, 0, none⟩) N N) (mkd l i) N wr) := hx
        clear hx
        by_cases hlt : i < l.length
        · have hd : decide ((i : Int) < (l.length : Int)) = true := by simp; omega
          obtain ⟨g, cap, hg, hc0, hc1⟩ := HX2.out.dl.cells i hlt HP.out
          obtain ⟨rfl, rfl⟩ : va = some ⟨g, 0, none⟩ ∧ vc = cap := by simpa using hg
          obtain ⟨gp, cp, hgp⟩ := own_at HX2.out.dl.op (by omega)
          obtain ⟨rfl, rfl⟩ : vp = some ⟨gp, 0, none⟩ ∧ pc = cp := by simpa using hgp
          have hcp : wr.cell? ⟨gp, i, none⟩ = some (.int .i64 (pos l i : Int)) := own_cells HX2.out.dl.op i _ (plcC_get l _ i hlt)
          have HTG : Hid (∀ w', Below wr.heap.size wr w' → Calls Tryd.prog 28 #[.agg #[.int .i64 (cd l i : Int), .int .i64 (opd l i)], .int .i64 (pos l i : Int), .slice (some ⟨gp, 0, none⟩) l.length pc, .int .i64 (s.size : Int)] w' fun e w'' => e = .returned (.int .i64 (ledZ l i)) ∧ Below w'.heap.size w' w'') := fun w' hb => rtarget_any HP.out i hlt (HX2.out.later hb).dl.op
          have hwi : wrap64 ((i : Int) + 1) = (i : Int) + 1 := by unfold wrap64; omega
          have HI : Hid (i < l.length) := hlt
          clear hg hgp
          generalize (cd l i : Int) = c at *
          generalize opd l i = x at *
          generalize (pos l i : Int) = pi at *
          go_upto_region 15 with fail
          go_cut [12] (fun s12 wx => s12 = .int .i64 (ledZ l i) ∧ DM w l (.slice (some ⟨g, 0, none⟩) l.length vc) (.slice (some ⟨gp, 0, none⟩) l.length pc) (.slice (some ⟨gm, 0, none⟩) N N) (mkd l i) N wx)
          case first =>
            go_region_with (go_at_call 28; refine (HTG.out _ (by first | exact Below.refl _ _ | exact (Below.refl _ _).drew | exact (Below.refl _ _).drew.drew)).mono ?_; rintro e w3 ⟨rfl, hb3⟩; have HB3 : Hid (Below wr.heap.size wr w3) := ⟨hb3.os, hb3.tape, hb3.output, hb3.size, hb3.block⟩; clear hb3)
            all_goals
              go_wp2_with fail
              go_meet
              exact ⟨rfl, HX2.out.later HB3.out⟩
          case rest =>
            obtain ⟨rfl, hx⟩ := hcut
            have HX3 : Hid (DM w l (.slice (some ⟨g, 0, none⟩) l.length vc) (.slice (some ⟨gp, 0, none⟩) l.length pc) (.slice (some ⟨gm, 0, none⟩) N N) (mkd l i) N wc) := hx
            clear hx HX2 HTG hc0 hc1 hcp
            cases hle : led l i with
            | none =>
              have hz : ledZ l i = -1 := by unfold ledZ; rw [hle]
              have HK : Hid (mkd l (i + 1) = mkd l i) := by
                show _ = _
                funext j
                rw [mkd_succ, hle]
                simp
              rw [hz]
              clear hz hle
              go_wp2
              go_roundw
              case rel => exact ⟨i + 1, HI.out, by go_num, by rw [HK.out]; exact HX3.out⟩
              case measure => exact meas_i HI.out
            | some k =>
              have hz : ledZ l i = (k : Int) := by unfold ledZ; rw [hle]
              have hkN : k < N := by
                obtain ⟨q, hq, hqk⟩ := (isPos_iff l _).1 (led_pos hle).1
                have := (HP.out.pos_le q hq).1
                have := HN.out
                omega
              have HK : Hid ((fun j => if j = k then true else mkd l i j) = mkd l (i + 1)) := by
                show _ = _
                funext j
                rw [mkd_succ, hle]
                by_cases e : j = k
                · subst e; simp
                · simp [e, show ¬ k = j from fun x => e x.symm]
              have hc : wc.cell? ⟨gm, k, none⟩ = some (.bool (mkd l i k)) := own_cells HX3.out.om k _ (mkC_get _ _ _ hkN)
              have hf : wc.frozen? ⟨gm, k, none⟩ = false := HX3.out.om.frozenAt k
              have HS : Hid (DM w l (.slice (some ⟨g, 0, none⟩) l.length vc) (.slice (some ⟨gp, 0, none⟩) l.length pc) (.slice (some ⟨gm, 0, none⟩) N N) (mkd l (i + 1)) N (wc.setCell ⟨gm, k, none⟩ (.bool true))) := by
                rw [Hid, ← HK.out]
                exact HX3.out.store k hkN
              have hkz : (k : Int) < (N : Int) := by omega
              have hk0 : ¬ (k : Int) < 0 := by omega
              rw [hz]
              clear hz hle
              generalize mkd l i k = b0 at *
              go_wp2
              go_roundw
              case rel => exact ⟨i + 1, HI.out, by go_num, HS.out⟩
              case measure => exact meas_i HI.out
        · obtain rfl : i = l.length := by omega
          have hd : decide ((l.length : Int) < (l.length : Int)) = false := by simp
          go_wp2
          go_meet
          exact HX2.out
    case rest =>
      have HM2 : Hid (DM w l (.slice va l.length vc) (.slice vp l.length pc) (.slice (some ⟨gm, 0, none⟩) N N) (mkd l l.length) N wc) := hcut
      clear hcut HM HX hmk
      have HWD : Hid (∀ w', Calls Tryd.prog 29 #[] w' fun e w'' => ∃ v, e = .returned v ∧ w''.ownsRow w'.heap.size 9 1 v 41 wordsC ∧ Below w'.heap.size w' w'') := words_any
      go_wp2_with fail
      refine (HWD.out _).mono ?_
      rintro e w4 ⟨vw, rfl, how, hb4⟩
      have HM4 : Hid (DM w l (.slice va l.length vc) (.slice vp l.length pc) (.slice (some ⟨gm, 0, none⟩) N N) (mkd l l.length) N w4) := HM2.out.later hb4
      obtain ⟨gw, cw, rfl⟩ := own_at how (by decide)
      have HOW : Hid (∀ w', Below w4.heap.size w4 w' → ∀ c, c ≤ 40 → w'.cell? ⟨gw, c, none⟩ = some (.string (S (wordL c)))) := fun w' hb c hc => by
        have := own_cells (own_keep how (Keep.of_below hb []) (by simp)) c (.string (S (wordL c))) (by
          have hl : c < wordT.length := by show c < 41; omega
          simp [wordsC, wordL, List.getD, hl])
        exact this
      clear how hb4 HWD HM2
      go_wp2_with fail
      go_loopw [14, 15] (fun u14 u15 wr => ∃ i : Nat, i ≤ l.length ∧ u15 = .int .i64 (i : Int) ∧ u14 = .string (S (txT l i)) ∧ DM w l (.slice va l.length vc) (.slice vp l.length pc) (.slice (some ⟨gm, 0, none⟩) N N) (mkd l l.length) N wr ∧ Below w4.heap.size w4 wr) (fun _ u15 _ => l.length - (intOf u15).toNat)
      case atStart => exact ⟨0, by omega, rfl, rfl, HM4.out, Below.refl _ _⟩
      case round =>
        obtain ⟨i, hi, rfl, rfl, hx, hbx⟩ := hrel
        have HX5 : Hid (DM w l (.slice va l.length vc) (.slice vp l.length pc) (.slice (some ⟨gm, 0, none⟩) N N) (mkd l l.length) N wr) := hx
        have HB5 : Hid (Below w4.heap.size w4 wr) := hbx
        clear hx hbx
        have htl := txT_len HP.out i hi
        by_cases hlt : i < l.length
        · have hd : decide ((i : Int) < (l.length : Int)) = true := by simp; omega
          obtain ⟨g, cap, hg, _, _⟩ := HX5.out.dl.cells i hlt HP.out
          obtain ⟨rfl, rfl⟩ : va = some ⟨g, 0, none⟩ ∧ vc = cap := by simpa using hg
          obtain ⟨gp, cp, hgp⟩ := own_at HX5.out.dl.op (by omega)
          obtain ⟨rfl, rfl⟩ : vp = some ⟨gp, 0, none⟩ ∧ pc = cp := by simpa using hgp
          have hcp : wr.cell? ⟨gp, i, none⟩ = some (.int .i64 (pos l i : Int)) := own_cells HX5.out.dl.op i _ (plcC_get l _ i hlt)
          have hp5 := (HP.out.pos_le i hi).1
          have hpN : pos l i < N := by have := HN.out; omega
          have hcm : wr.cell? ⟨gm, pos l i, none⟩ = some (.bool (mkd l l.length (pos l i))) := own_cells HX5.out.om _ _ (mkC_get _ _ _ hpN)
          have hpN' : (pos l i : Int) < (N : Int) := by omega
          have hlb := labT_len (pos l i) (by omega)
          have HIT : Hid (∀ w', Below w.heap.size w w' → Calls Tryd.prog 30 #[.int .i64 (pos l i : Int)] w' fun e w'' => e = .returned (.string (S (Lib.itoa (pos l i : Int)))) ∧ Below w'.heap.size w' w'') := fun w' hb => itoa_any _ (by omega) (by omega) (HT.out.later hb)
          clear hg hgp
          go_upto_if 85 with fail
          go_cut [14] (fun s14 wx => s14 = .string (S (txT l i ++ (if mkd l l.length (pos l i) then labL (pos l i) else []))) ∧ DM w l (.slice (some ⟨g, 0, none⟩) l.length vc) (.slice (some ⟨gp, 0, none⟩) l.length pc) (.slice (some ⟨gm, 0, none⟩) N N) (mkd l l.length) N wx ∧ Below w4.heap.size w4 wx)
          case first =>
            cases hmk : mkd l l.length (pos l i) with
            | true =>
              have HMK : Hid (mkd l l.length (pos l i) = true) := hmk
              have ha1 : ∀ w, (Op.stringOp .add (S (txT l i)) ⟨#[76]⟩).run Tryd.prog w = .ok (.string (S (txT l i ++ [76]))) w := add_S _ [76] (by simp; omega)
              have hil := itoa_len (pos l i : Int) (by omega) (by omega)
              have ha2 : ∀ w, (Op.stringOp .add (S (txT l i ++ [76])) (S (Lib.itoa (pos l i : Int)))).run Tryd.prog w = .ok (.string (S (txT l i ++ [76] ++ Lib.itoa (pos l i : Int)))) w := add_S _ _ (by simp; omega)
              have ha3 : ∀ w, (Op.stringOp .add (S (txT l i ++ [76] ++ Lib.itoa (pos l i : Int))) ⟨#[58, 10]⟩).run Tryd.prog w = .ok (.string (S (txT l i ++ labL (pos l i)))) w := fun w => by
                have := add_S (txT l i ++ [76] ++ Lib.itoa (pos l i : Int)) [58, 10] (by simp; omega) w
                have e : txT l i ++ [76] ++ Lib.itoa (pos l i : Int) ++ [58, 10] = txT l i ++ labL (pos l i) := by simp [labL, labT]
                rw [e] at this
                exact this
              have HRE : Hid (S (txT l i ++ (if mkd l l.length (pos l i) then labL (pos l i) else [])) = S (txT l i ++ labL (pos l i))) := by rw [Hid, hmk]; rfl
              rw [hmk] at hcm
              generalize S (txT l i ++ labL (pos l i)) = R3 at *
              generalize S (txT l i ++ [76] ++ Lib.itoa (pos l i : Int)) = R2 at *
              generalize S (txT l i ++ [76]) = R1 at *
              generalize S (txT l i) = R0 at *
              generalize S (Lib.itoa (pos l i : Int)) = RI at *
              clear hmk hil htl hlb
              go_wp2_with fail
              refine (HIT.out _ HX5.out.dl.bel).mono ?_
              rintro e w6 ⟨rfl, hb6⟩
              have HX6 : Hid (DM w l (.slice (some ⟨g, 0, none⟩) l.length vc) (.slice (some ⟨gp, 0, none⟩) l.length pc) (.slice (some ⟨gm, 0, none⟩) N N) (mkd l l.length) N w6) := HX5.out.later hb6
              have HB6 : Hid (Below w4.heap.size w4 w6) := below_then HB5.out hb6
              clear hb6
              go_wp2
              go_meet
              exact ⟨by rw [HRE.out], HX6.out, HB6.out⟩
            | false =>
              have HRE : Hid (S (txT l i ++ (if mkd l l.length (pos l i) then labL (pos l i) else [])) = S (txT l i)) := by rw [Hid, hmk]; simp
              rw [hmk] at hcm
              clear hmk
              go_wp2
              go_meet
              exact ⟨by rw [HRE.out], HX5.out, HB5.out⟩
          case rest =>
            obtain ⟨rfl, hx, hbx⟩ := hcut
            have HX6 : Hid (DM w l (.slice (some ⟨g, 0, none⟩) l.length vc) (.slice (some ⟨gp, 0, none⟩) l.length pc) (.slice (some ⟨gm, 0, none⟩) N N) (mkd l l.length) N wc) := hx
            have HB6 : Hid (Below w4.heap.size w4 wc) := hbx
            clear hx hbx HX5 HB5 HIT hcm hcp
            have hab : (txT l i ++ (if mkd l l.length (pos l i) then labL (pos l i) else [])).length ≤ 40000 := by
              rw [List.length_append]
              split
              · simp only [labL, List.length_append, List.length_cons, List.length_nil]; omega
              · simp only [List.length_nil]; omega
            have HLN : Hid (txT l (i + 1) = (txT l i ++ (if mkd l l.length (pos l i) then labL (pos l i) else [])) ++ insT l i) := by
              show _ = _
              rw [txT_succ, lnT, List.append_assoc]
            generalize txT l i ++ (if mkd l l.length (pos l i) then labL (pos l i) else []) = T1 at *
            obtain ⟨q1, q2, q3, q4⟩ := HP.out.cd_ok i hlt
            obtain ⟨o1, o2⟩ := HP.out.opd_ok i hlt
            have hwl := word_len ⟨cd l i, by omega⟩
            simp only at hwl
            have ha1 : ∀ w, (Op.stringOp .add (S T1) (S (wordL (cd l i)))).run Tryd.prog w = .ok (.string (S (T1 ++ wordL (cd l i)))) w := add_S _ _ (by omega)
            have hT2 : (T1 ++ wordL (cd l i)).length ≤ 41000 := by rw [List.length_append]; omega
            obtain ⟨g2, cap2, hg2, hc0, hc1⟩ := HX6.out.dl.cells i hlt HP.out
            obtain ⟨rfl, rfl⟩ : g = g2 ∧ vc = cap2 := by simpa using hg2
            have hcw := HOW.out wc HB6.out (cd l i) q1
            have hc41 : (cd l i : Int) < 41 := by omega
            have HI : Hid (i < l.length) := hlt
            have HTG : Hid (∀ w', Below wc.heap.size wc w' → Calls Tryd.prog 28 #[.agg #[.int .i64 (cd l i : Int), .int .i64 (opd l i)], .int .i64 (pos l i : Int), .slice (some ⟨gp, 0, none⟩) l.length pc, .int .i64 (s.size : Int)] w' fun e w'' => e = .returned (.int .i64 (ledZ l i)) ∧ Below w'.heap.size w' w'') := fun w' hb => rtarget_any HP.out i hlt (HX6.out.later hb).dl.op
            have hcp : wc.cell? ⟨gp, i, none⟩ = some (.int .i64 (pos l i : Int)) := own_cells HX6.out.dl.op i _ (plcC_get l _ i hlt)
            have hwi : wrap64 ((i : Int) + 1) = (i : Int) + 1 := by unfold wrap64; omega
            have HCD : Hid (∀ w', Below wc.heap.size wc w' → w'.cell? ⟨g, i * 2, none⟩ = some (.int .i64 (cd l i : Int)) ∧ w'.cell? ⟨g, i * 2 + 1, none⟩ = some (.int .i64 (opd l i))) := fun w' hb => by
              obtain ⟨g3, cap3, hg3, hd0, hd1⟩ := (HX6.out.later hb).dl.cells i hlt HP.out
              obtain ⟨rfl, rfl⟩ : g = g3 ∧ vc = cap3 := by simpa using hg3
              exact ⟨hd0, hd1⟩
            have HWW : Hid (∀ w', Calls Tryd.prog 27 #[.int .i64 (cd l i : Int)] w' fun e w'' => e = .returned (.int .i64 (wdC (cd l i) : Int)) ∧ w'' = w') := rwidth_any _ q1
            have HFM : Hid (∀ w', Below w.heap.size w w' → Calls Tryd.prog 31 #[.int .i64 (opd l i), .int .i64 10] w' fun e w'' => e = .returned (.string (S (Lib.itoa (opd l i)))) ∧ Below w'.heap.size w' w'') := fun w' hb => fmt_any _ o1 o2 (HT.out.later hb)
            have HQ : Hid (cd l i ≤ 40) := q1
            have hil := itoa_len (opd l i) o1 o2
            have HIN : Hid (insT l i = wordL (cd l i) ++ (if 0 < wdC (cd l i) then 32 :: opT l i else []) ++ [10]) := rfl
            have HW2 : Hid (led l i ≠ none → 0 < wdC (cd l i)) := fun hne => by
              have : tg l i ≠ none := fun e => hne (led_none e)
              rw [(led_wd this).1]; decide
            have hx0 : (cd l i : Int) < 0 ↔ False := by simp
            clear hg2 q2 q3 q4 o1 o2 htl hlb hp5 hpN hpN'
            obtain ⟨R1, hR1⟩ : ∃ R, S T1 = R := ⟨_, rfl⟩
            obtain ⟨R2, hR2⟩ : ∃ R, S (T1 ++ wordL (cd l i)) = R := ⟨_, rfl⟩
            obtain ⟨RW, hRW⟩ : ∃ R, S (wordL (cd l i)) = R := ⟨_, rfl⟩
            have HR2 : Hid (S (T1 ++ wordL (cd l i)) = R2) := hR2
            rw [hR1, hR2, hRW] at ha1
            rw [hRW] at hcw
            rw [hR1]
            clear hR1 hR2 hRW
            go_upto_region 26 with fail
            go_cut [16] (fun s16 wx => s16 = .int .i64 (ledZ l i) ∧ DM w l (.slice (some ⟨g, 0, none⟩) l.length vc) (.slice (some ⟨gp, 0, none⟩) l.length pc) (.slice (some ⟨gm, 0, none⟩) N N) (mkd l l.length) N wx ∧ Below wc.heap.size wc wx)
            case first =>
              go_region_with (go_at_call 28; refine (HTG.out _ (by first | exact Below.refl _ _ | exact (Below.refl _ _).drew | exact (Below.refl _ _).drew.drew)).mono ?_; rintro e w3 ⟨rfl, hb3⟩; have HB3 : Hid (Below wc.heap.size wc w3) := ⟨hb3.os, hb3.tape, hb3.output, hb3.size, hb3.block⟩; clear hb3)
              all_goals
                go_wp2_with fail
                go_meet
                exact ⟨rfl, HX6.out.later HB3.out, HB3.out⟩
            case rest =>
              obtain ⟨rfl, hx, hbx⟩ := hcut
              obtain ⟨hd0, hd1⟩ := HCD.out wc hbx
              have HD6 : Hid (DM w l (.slice (some ⟨g, 0, none⟩) l.length vc) (.slice (some ⟨gp, 0, none⟩) l.length pc) (.slice (some ⟨gm, 0, none⟩) N N) (mkd l l.length) N wc) := hx
              have HB7 : Hid (Below w4.heap.size w4 wc) := below_then HB6.out hbx
              clear hx hbx HCD HTG HX6 HB6 hc0 hc1 hcw hcp
              cases hle : led l i with
              | some k =>
                have hz : ledZ l i = (k : Int) := by unfold ledZ; rw [hle]
                have hk5 : k ≤ 512 := by
                  obtain ⟨q, hq, hqk⟩ := (isPos_iff l _).1 (led_pos hle).1
                  have := (HP.out.pos_le q hq).1
                  omega
                have hkl := itoa_len (k : Int) (by omega) (by omega)
                have HIT : Hid (∀ w', Below w.heap.size w w' → Calls Tryd.prog 30 #[.int .i64 (k : Int)] w' fun e w'' => e = .returned (.string (S (Lib.itoa (k : Int)))) ∧ Below w'.heap.size w' w'') := fun w' hb => itoa_any _ (by omega) (by omega) (HT.out.later hb)
                have hb1 : ∀ w, (Op.stringOp .add R2 ⟨#[32, 76]⟩).run Tryd.prog w = .ok (.string (S (T1 ++ wordL (cd l i) ++ [32, 76]))) w := by rw [← HR2.out]; exact add_S _ [32, 76] (by simp at *; omega)
                have hb2 : ∀ w, (Op.stringOp .add (S (T1 ++ wordL (cd l i) ++ [32, 76])) (S (Lib.itoa (k : Int)))).run Tryd.prog w = .ok (.string (S (T1 ++ wordL (cd l i) ++ [32, 76] ++ Lib.itoa (k : Int)))) w := add_S _ _ (by simp at *; omega)
                have hb3 : ∀ w, (Op.stringOp .add (S (T1 ++ wordL (cd l i) ++ [32, 76] ++ Lib.itoa (k : Int))) ⟨#[10]⟩).run Tryd.prog w = .ok (.string (S (txT l (i + 1)))) w := fun w => by
                  have := add_S (T1 ++ wordL (cd l i) ++ [32, 76] ++ Lib.itoa (k : Int)) [10] (by simp at *; omega) w
                  have e : T1 ++ wordL (cd l i) ++ [32, 76] ++ Lib.itoa (k : Int) ++ [10] = txT l (i + 1) := by
                    rw [HLN.out, HIN.out, if_pos (HW2.out (by rw [hle]; simp))]
                    unfold opT
                    rw [hle]
                    simp [labT]
                  rw [e] at this
                  exact this
                rw [hz]
                have hk0 : ¬ (k : Int) < 0 := by omega
                have hk1 : decide (0 ≤ (k : Int)) = true := by simp
                clear hz hle hkl HFM HWW HLN HIN HW2 HR2 hab hT2 hwl hil
                generalize S (T1 ++ wordL (cd l i) ++ [32, 76] ++ Lib.itoa (k : Int)) = R4 at *
                generalize S (T1 ++ wordL (cd l i) ++ [32, 76]) = R3 at *
                generalize S (Lib.itoa (k : Int)) = RI at *
                obtain ⟨R5, hR5⟩ : ∃ R, S (txT l (i + 1)) = R := ⟨_, rfl⟩
                have HR5 : Hid (S (txT l (i + 1)) = R5) := hR5
                rw [hR5] at hb3
                clear hR5
                go_wp2_with fail
                refine (HIT.out _ HD6.out.dl.bel).mono ?_
                rintro e w6 ⟨rfl, hb6⟩
                have HD7 : Hid (DM w l (.slice (some ⟨g, 0, none⟩) l.length vc) (.slice (some ⟨gp, 0, none⟩) l.length pc) (.slice (some ⟨gm, 0, none⟩) N N) (mkd l l.length) N w6) := HD6.out.later hb6
                have HB8 : Hid (Below w4.heap.size w4 w6) := below_then HB7.out hb6
                clear hb6 hd0 hd1
                go_wp2
                go_roundw
                case rel => exact ⟨i + 1, HI.out, by go_num, by rw [HR5.out], HD7.out, HB8.out⟩
                case measure => exact meas_i HI.out
              | none =>
                have hz : ledZ l i = -1 := by unfold ledZ; rw [hle]
                by_cases hwd : 0 < wdC (cd l i)
                · have hb1 : ∀ w, (Op.stringOp .add R2 ⟨#[32]⟩).run Tryd.prog w = .ok (.string (S (T1 ++ wordL (cd l i) ++ [32]))) w := by rw [← HR2.out]; exact add_S _ [32] (by simp at *; omega)
                  have hb2 : ∀ w, (Op.stringOp .add (S (T1 ++ wordL (cd l i) ++ [32])) (S (Lib.itoa (opd l i)))).run Tryd.prog w = .ok (.string (S (T1 ++ wordL (cd l i) ++ [32] ++ Lib.itoa (opd l i)))) w := add_S _ _ (by simp at *; omega)
                  have hb3 : ∀ w, (Op.stringOp .add (S (T1 ++ wordL (cd l i) ++ [32] ++ Lib.itoa (opd l i))) ⟨#[10]⟩).run Tryd.prog w = .ok (.string (S (txT l (i + 1)))) w := fun w => by
                    have := add_S (T1 ++ wordL (cd l i) ++ [32] ++ Lib.itoa (opd l i)) [10] (by simp at *; omega) w
                    have e : T1 ++ wordL (cd l i) ++ [32] ++ Lib.itoa (opd l i) ++ [10] = txT l (i + 1) := by
                      rw [HLN.out, HIN.out, if_pos hwd]
                      unfold opT
                      rw [hle]
                      simp
                    rw [e] at this
                    exact this
                  rw [hz]
                  have hn1 : decide ((0 : Int) < (wdC (cd l i) : Int)) = true := by simp; omega
                  have hn2 : (0 : Int) < (wdC (cd l i) : Int) := by omega
                  clear hz hle HLN HIN HW2 HR2 hab hT2 hwl hil hwd
                  generalize S (T1 ++ wordL (cd l i) ++ [32] ++ Lib.itoa (opd l i)) = R4 at *
                  generalize S (T1 ++ wordL (cd l i) ++ [32]) = R3 at *
                  generalize S (Lib.itoa (opd l i)) = RI at *
                  generalize (wdC (cd l i) : Int) = n at *
                  obtain ⟨R5, hR5⟩ : ∃ R, S (txT l (i + 1)) = R := ⟨_, rfl⟩
                  have HR5 : Hid (S (txT l (i + 1)) = R5) := hR5
                  rw [hR5] at hb3
                  clear hR5
                  go_wp2_with fail
                  refine (HWW.out _).mono ?_
                  rintro e w6 ⟨rfl, rfl⟩
                  go_wp2_with fail
                  refine (HFM.out _ HD6.out.dl.bel).mono ?_
                  rintro e w6 ⟨rfl, hb6⟩
                  have HD7 : Hid (DM w l (.slice (some ⟨g, 0, none⟩) l.length vc) (.slice (some ⟨gp, 0, none⟩) l.length pc) (.slice (some ⟨gm, 0, none⟩) N N) (mkd l l.length) N w6) := HD6.out.later hb6
                  have HB8 : Hid (Below w4.heap.size w4 w6) := below_then HB7.out hb6
                  clear hb6 hd0 hd1
                  go_wp2
                  go_roundw
                  case rel => exact ⟨i + 1, HI.out, by go_num, by rw [HR5.out], HD7.out, HB8.out⟩
                  case measure => exact meas_i HI.out
                · have hb3 : ∀ w, (Op.stringOp .add R2 ⟨#[10]⟩).run Tryd.prog w = .ok (.string (S (txT l (i + 1)))) w := fun w => by
                    have := add_S (T1 ++ wordL (cd l i)) [10] (by simp at *; omega) w
                    have e : T1 ++ wordL (cd l i) ++ [10] = txT l (i + 1) := by
                      rw [HLN.out, HIN.out, if_neg hwd]
                      simp
                    rw [e, HR2.out] at this
                    exact this
                  rw [hz]
                  have hn1 : decide ((0 : Int) < (wdC (cd l i) : Int)) = false := by simp; omega
                  have hn2 : ¬ (0 : Int) < (wdC (cd l i) : Int) := by omega
                  clear hz hle HLN HIN HW2 HR2 hab hT2 hwl hil hwd HFM
                  generalize (wdC (cd l i) : Int) = n at *
                  obtain ⟨R5, hR5⟩ : ∃ R, S (txT l (i + 1)) = R := ⟨_, rfl⟩
                  have HR5 : Hid (S (txT l (i + 1)) = R5) := hR5
                  rw [hR5] at hb3
                  clear hR5
                  go_wp2_with fail
                  refine (HWW.out _).mono ?_
                  rintro e w6 ⟨rfl, rfl⟩
                  clear hd0 hd1
                  go_wp2
                  go_roundw
                  case rel => exact ⟨i + 1, HI.out, by go_num, by rw [HR5.out], HD6.out, HB7.out⟩
                  case measure => exact meas_i HI.out
        · obtain rfl : i = l.length := by omega
          have hd : decide ((l.length : Int) < (l.length : Int)) = false := by simp
          have hps := HP.out.size
          have hpN : s.size < N := by have := HN.out; omega
          have hcm : wr.cell? ⟨gm, s.size, none⟩ = some (.bool (mkd l l.length s.size)) := own_cells HX5.out.om _ _ (mkC_get _ _ _ hpN)
          have hpN' : (s.size : Int) < (N : Int) := by omega
          have HPR : Hid (prT l = txT l l.length ++ (if mkd l l.length s.size then labL s.size else [])) := by
            show _ = _
            unfold prT
            rw [hps]
          have hil := itoa_len (s.size : Int) (by omega) (by omega)
          have HIT : Hid (∀ w', Below w.heap.size w w' → Calls Tryd.prog 30 #[.int .i64 (s.size : Int)] w' fun e w'' => e = .returned (.string (S (Lib.itoa (s.size : Int)))) ∧ Below w'.heap.size w' w'') := fun w' hb => itoa_any _ (by omega) (by omega) (HT.out.later hb)
          cases hmk : mkd l l.length s.size with
          | true =>
            have ha1 : ∀ w, (Op.stringOp .add (S (txT l l.length)) ⟨#[76]⟩).run Tryd.prog w = .ok (.string (S (txT l l.length ++ [76]))) w := add_S _ [76] (by simp; omega)
            have ha2 : ∀ w, (Op.stringOp .add (S (txT l l.length ++ [76])) (S (Lib.itoa (s.size : Int)))).run Tryd.prog w = .ok (.string (S (txT l l.length ++ [76] ++ Lib.itoa (s.size : Int)))) w := add_S _ _ (by simp; omega)
            have ha3 : ∀ w, (Op.stringOp .add (S (txT l l.length ++ [76] ++ Lib.itoa (s.size : Int))) ⟨#[58, 10]⟩).run Tryd.prog w = .ok (.string (S (prT l))) w := fun w => by
              have := add_S (txT l l.length ++ [76] ++ Lib.itoa (s.size : Int)) [58, 10] (by simp; omega) w
              have e : txT l l.length ++ [76] ++ Lib.itoa (s.size : Int) ++ [58, 10] = prT l := by rw [HPR.out, hmk]; simp [labL, labT]
              rw [e] at this
              exact this
            rw [hmk] at hcm
            obtain ⟨R3, hR3⟩ : ∃ R, S (prT l) = R := ⟨_, rfl⟩
            have HR3 : Hid (S (prT l) = R3) := hR3
            rw [hR3] at ha3
            generalize S (txT l l.length ++ [76] ++ Lib.itoa (s.size : Int)) = R2 at *
            generalize S (txT l l.length ++ [76]) = R1 at *
            generalize S (txT l l.length) = R0 at *
            generalize S (Lib.itoa (s.size : Int)) = RI at *
            clear hmk hil htl hps HPR hR3
            go_wp2_with fail
            refine (HIT.out _ HX5.out.dl.bel).mono ?_
            rintro e w6 ⟨rfl, hb6⟩
            go_wp2
            go_ret2
            rw [HR3.out]
            exact ⟨rfl, below_then HX5.out.dl.bel hb6⟩
          | false =>
            have HR3 : Hid (S (prT l) = S (txT l l.length)) := by
              rw [Hid, HPR.out, hmk]
              simp
            rw [hmk] at hcm
            clear hmk hil htl hps HPR
            go_wp2
            go_ret2
            rw [HR3.out]
            exact ⟨rfl, HX5.out.dl.bel⟩
end Go.Proofs.YtimffcliomeaaaaDoor
