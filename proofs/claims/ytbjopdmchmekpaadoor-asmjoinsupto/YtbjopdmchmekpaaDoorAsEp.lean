/- The document's Parse. -/
import Derived.Test.YtbjopdmchmekpaaDoorJAsEiAsEl
import Derived.Test.YtbjopdmchmekpaaDoorJAsEiAsEl
import Derived.Test.YtbjopdmchmekpaaDoorAsOw
namespace Go.Proofs.YtbjopdmchmekpaaDoor
open Go.ChangeShapes Go.WideShapes Go.ChangeAt Go.RowKit
attribute [local go_sem ↓] Go.wp_at_zero Go.wp_at_succ

theorem mor_labs {st st' : PS} {p c : Nat} {v : Int} {nm : Option (List UInt8 × Nat)} {r : List Tok} (h : moreV st p c v nm r = .ok st') : st'.labs = st.labs := by
  cases r with
  | cons x r => obtain ⟨x1, q⟩ := x; simp only [moreV] at h; cases h
  | nil =>
    simp only [moreV] at h
    split at h
    · cases h
    · injection h with h; rw [← h]; rfl
theorem ins_labs {st st' : PS} {t : List Tok} (h : instV st t = .ok st') : st'.labs = st.labs := by
  match t, h with
  | [], h => simp only [instV] at h; injection h with h; rw [h]
  | (x, p) :: r, h =>
    cases hw : wordI x with
    | none => rw [inst_no st hw] at h; cases h
    | some c =>
      by_cases hd : wdC c = 0
      · rw [inst_none st hw hd] at h; exact mor_labs h
      · rw [inst_opd st hw hd] at h
        cases ho : odV c (x, p) r with
        | error e => rw [ho] at h; cases h
        | ok vt => rw [ho] at h; exact mor_labs h
theorem line_labs {st st' : PS} {t : List Tok} (h : lineV st t = .ok st') : st'.labs.length ≤ st.labs.length + 1 := by
  unfold lineV at h
  match t, h with
  | [], h => simp only at h; injection h with h; rw [h]; omega
  | (x, p) :: r, h =>
    simp only at h
    split at h
    · split at h
      · split at h
        · have := ins_labs h; rw [this]; simp
        · cases h
      · cases h
    · have := ins_labs h; rw [this]; omega
theorem fold_at {st : PS} {Ls : List (List Tok)} {i : Nat} (hi : i < Ls.length) : foldV st (Ls.drop i) = match lineV st (Ls.getD i []) with
    | .error e => .error e
    | .ok st' => foldV st' (Ls.drop (i + 1)) := by
  rw [List.drop_eq_getElem_cons hi]
  have : Ls.getD i [] = Ls[i] := by simp [hi]
  rw [this]
  rfl
theorem tk_of_own {w : World} {base X : Nat} {v : Value} {l : List Tok} (h : w.ownsRow base 55 2 v l.length (tkC l)) (hX : X < base) (hl : l.length ≤ 20000000) (hx : ∀ x ∈ l, x.1.length ≤ 20000000 ∧ x.2 ≤ 20000000 ∧ x.1 ≠ []) : TkL w.heap.size X w v l := by
  have hc := h
  rcases h.2 with ⟨rfl, h0⟩ | ⟨g, cap, cur, rfl, hg, hb, h1, h2, _⟩
  · exact ⟨none, 0, by rw [h0], hl, by omega, by omega, hx, Or.inl h0⟩
  · have hlt := heap_lt hb
    refine ⟨_, cap, rfl, hl, h1, by unfold maxLen at h2; omega, hx, Or.inr ⟨g, 0, rfl, ⟨hlt, by omega, hlt⟩, fun i hi => ?_⟩⟩
    have := tkC_get l i hi
    rw [Nat.zero_add]
    exact ⟨own_cells hc _ _ this.1, own_cells hc _ _ this.2⟩
/-- What lines handed back, for whoever reads it. -/
structure LnR (B X : Nat) (w : World) (v : Value) (Ls : List (List Tok)) : Prop where
  ex : ∃ g cap, v = .slice (some ⟨g, 0, none⟩) Ls.length cap ∧ g < B ∧ g ≠ X ∧ g < w.heap.size ∧ ∀ i, i < Ls.length → ∃ u, w.cell? ⟨g, i * 2, none⟩ = some u ∧ TkL B X w u (Ls.getD i [])
theorem LnR.fz {B X : Nat} {w w' : World} {v : Value} {Ls : List (List Tok)} (h : LnR B X w v Ls) (hf : Fz B X w w') : LnR B X w' v Ls := by
  obtain ⟨g, cap, h1, h2, h3, h4, h5⟩ := h.ex
  refine ⟨g, cap, h1, h2, h3, Nat.lt_of_lt_of_le h4 hf.size, fun i hi => ?_⟩
  obtain ⟨u, k1, k2⟩ := h5 i hi
  exact ⟨u, fz_cell hf h2 h3 k1, k2.fz hf⟩
theorem LnV.read {w0 wr : World} {st : LS} {n X : Nat} {v : Value} {vs : List Value} {vc : Value} (h : LnV w0 wr st n v vs vc) (hn : n ≤ 20000000) (hX : X < w0.heap.size) : LnR wr.heap.size X wr v (st.ls ++ [st.cur]) := by
  obtain ⟨g, cap, hv⟩ := own_slice_at h.out (by omega)
  subst hv
  have hgb := own_block h.out g rfl
  have hlen := h.len
  refine ⟨g, cap, by rw [List.length_append, ← hlen]; rfl, hgb.2, by omega, hgb.2, fun i hi => ⟨(vs ++ [vc]).getD i undef, own_cells h.out _ _ (linC_get (vs ++ [vc]) i (by simpa [hlen] using hi)), ?_⟩⟩
  have hok := h.ok ((st.ls ++ [st.cur]).getD i []) (by
    have : (st.ls ++ [st.cur]).getD i [] = (st.ls ++ [st.cur])[i] := by rw [List.getD_eq_getElem?_getD, List.getElem?_eq_getElem hi]; rfl
    rw [this]
    exact List.getElem_mem hi)
  have hrow : wr.ownsRow w0.heap.size 55 2 ((vs ++ [vc]).getD i undef) ((st.ls ++ [st.cur]).getD i []).length (tkC ((st.ls ++ [st.cur]).getD i [])) := by
    by_cases e : i < vs.length
    · rw [getD_app_left _ _ _ _ e, getD_app_left _ _ _ _ (by omega)]
      exact h.rows i e
    · have e2 : i = vs.length := by simp only [List.length_append, List.length_singleton] at hi; omega
      rw [e2, getD_app_last, hlen, getD_app_last]
      exact h.cur
  exact tk_of_own hrow hX (by omega) (fun x hx => ⟨by have := (hok.2 x hx).1; omega, by have := (hok.2 x hx).2.1; omega, (hok.2 x hx).2.2⟩)
/-! ### names become numbers, one by one -/
theorem allB_snoc (l : List (Int × Int)) (c : Nat) (x : Int) : allB (l ++ [((c : Int), x)]) = allB l ++ bytesI c x := by simp [allB]
theorem resD_at {L : List Tok} {os : List (Int × Int)} {ats : List Nat} {ns : List Tok} {i : Nat} (hi : i < os.length) (ha : ats.length = os.length) (hn : ns.length = os.length) : resD L (os.drop i) (ats.drop i) (ns.drop i) = (if (ns.getD i ([], 0)).1 = [] then (match resD L (os.drop (i + 1)) (ats.drop (i + 1)) (ns.drop (i + 1)) with
      | .error e => .error e
      | .ok r => .ok (os.getD i (0, 0) :: r)) else match lab L (ns.getD i ([], 0)).1 with
    | none => .error (11, (ns.getD i ([], 0)).2)
    | some k => match resD L (os.drop (i + 1)) (ats.drop (i + 1)) (ns.drop (i + 1)) with
      | .error e => .error e
      | .ok r => .ok (((os.getD i (0, 0)).1, if (os.getD i (0, 0)).1 = 26 then (k : Int) else (k : Int) - (ats.getD i 0 : Int) - 3) :: r)) := by
  rw [List.drop_eq_getElem_cons hi, List.drop_eq_getElem_cons (show i < ats.length by omega), List.drop_eq_getElem_cons (show i < ns.length by omega)]
  have e1 : os.getD i (0, 0) = os[i] := by simp [hi]
  have e2 : ats.getD i 0 = ats[i]'(by omega) := by simp [show i < ats.length by omega]
  have e3 : ns.getD i ([], 0) = ns[i]'(by omega) := by simp [show i < ns.length by omega]
  rw [e1, e2, e3]
  rfl
/-- The answer, out of what is left. -/
def preA (pre : List (Int × Int)) : Except (Int × Nat) (List (Int × Int)) → Except (Int × Nat) (List (Int × Int))
  | .error e => .error e
  | .ok r => .ok (pre ++ r)
theorem preA_snoc (pre : List (Int × Int)) (x : Int × Int) (R : Except (Int × Nat) (List (Int × Int))) : preA pre (match R with | .error e => .error e | .ok r => .ok (x :: r)) = preA (pre ++ [x]) R := by
  cases R <;> simp [preA]
def finP : Except (Int × Nat) PS → Except (Int × Nat) (List (Int × Int))
  | .error e => .error e
  | .ok st => resU st.labs st.us st.ops
theorem par_doc (l : List UInt8) : parV l = finP (foldV ⟨[], [], 0, []⟩ (linT (l.length + 1) l 0)) := by
  unfold parV
  rw [lines_fold]
  cases foldV ⟨[], [], 0, []⟩ (linT (l.length + 1) l 0) <;> rfl
theorem us_mem : ∀ (i j : Nat) (ats : List Nat) (ns : List Tok), j < ns.length → ats.length = ns.length → (ns.getD j ([], 0)).1 ≠ [] → (i + j, (ns.getD j ([], 0)).1, (ns.getD j ([], 0)).2, ats.getD j 0 + 3) ∈ usO i ats ns
  | i, j, [], [], h, _, _ => by simp at h
  | i, j, [], _ :: _, _, h, _ => by simp at h
  | i, j, _ :: _, [], _, h, _ => by simp at h
  | i, j, a :: ats, (n, q) :: ns, h, hl, hn => by
    cases j with
    | zero =>
      simp only [List.getD_cons_zero] at hn ⊢
      simp only [usO, if_neg hn, Nat.add_zero]
      simp
    | succ j =>
      simp only [List.getD_cons_succ] at hn ⊢
      have := us_mem (i + 1) j ats ns (by simpa using h) (by simpa using hl) hn
      have e : i + 1 + j = i + (j + 1) := by omega
      rw [e] at this
      simp only [usO]
      split
      · exact this
      · exact List.mem_cons_of_mem _ this
theorem pk_wrap {k a : Nat} (hk : k ≤ 512) (ha : a + 3 ≤ 512) : wrap64 ((k : Int) - (a : Int)) = (k : Int) - (a : Int) ∧ wrap64 ((k : Int) - (a : Int) - 3) = (k : Int) - (a : Int) - 3 ∧ IntKind.i64.wrap ((k : Int) - (a : Int)) = (k : Int) - (a : Int) ∧ IntKind.i64.wrap ((k : Int) - (a : Int) - 3) = (k : Int) - (a : Int) - 3 := ⟨by unfold wrap64; omega, by unfold wrap64; omega, by rw [IntKind.wrap_i64]; omega, by rw [IntKind.wrap_i64]; omega⟩
theorem by_len (c : Nat) (x : Int) : (bytesI c x).length ≤ 9 := by
  have := wd_le c
  have h2 : (bytesI c x).length = wdC c + 1 := by simp [bytesI, layN]
  omega
set_option maxRecDepth 100000 in
set_option maxHeartbeats 1000000 in
theorem rparse_any (s : ByteArray) (hs : s.size ≤ 20000000) (w : World) : Calls Tryd.prog 8 #[.string s] w fun e w' => e = .returned (ansV (parV s.data.toList)) ∧ Below w.heap.size w w' := by
  have HL : Hid (∀ w : World, Calls Tryd.prog 15 #[.string s] w fun e w' => ∃ v vs vc, e = .returned v ∧ LnV w w' (scanS ⟨[], [], false, false⟩ 0 s.data.toList) s.size v vs vc) := fun w => rlines_any s hs w
  obtain ⟨l, hl⟩ : ∃ l, s.data.toList = l := ⟨_, rfl⟩
  have hll : l.length = s.size := by rw [← hl]; exact ba_len s
  have hsc := scan_lines (l.length + 1) l 0 [] (by omega)
  rw [List.nil_append] at hsc
  rw [hl] at HL ⊢
  obtain ⟨A, hA⟩ : ∃ A, parV l = A := ⟨_, rfl⟩
  rw [hA]
  have HA : Hid (parV l = A) := hA
  obtain ⟨Ls, hLs⟩ : ∃ Ls, linT (l.length + 1) l 0 = Ls := ⟨_, rfl⟩
  have HPD : Hid (A = finP (foldV ⟨[], [], 0, []⟩ Ls)) := by rw [Hid, ← hA, ← hLs]; exact par_doc l
  rw [hLs] at hsc
  have HSC : Hid ((scanS ⟨[], [], false, false⟩ 0 l).ls ++ [(scanS ⟨[], [], false, false⟩ 0 l).cur] = Ls) := hsc
  have HER : Hid (∀ ep : Int × Nat, A = .error ep → Er ep.1) := fun ep h => er_par (hA.trans h)
  generalize scanS ⟨[], [], false, false⟩ 0 l = st at *
  clear hl hll hsc hA hLs
  go_enter Tryd.func8, Tryd.ntmps8
  go_wp2_with fail
  refine (HL.out _).mono ?_
  rintro e w2 ⟨v, vs, vc, rfl, hln⟩
  have hr := hln.read hs (X := w.heap.size) (by simp)
  rw [HSC.out] at hr
  have HB2 : Hid (Below w.heap.size w w2) := below_then (below_a1 _ _) hln.bel
  have hX2 : w.heap.size < w2.heap.size := by have := hln.bel.size; simp at this; omega
  have HAM : Hid (AmAt w2 w2.heap.size w.heap.size ⟨[], [], [], 0, []⟩) := by
    refine ⟨_, _, _, _, ⟨?_, World.ownsRow_nil _ _ _ _, World.ownsRow_nil _ _ _ _, World.ownsRow_nil _ _ _ _, World.ownsRow_nil _ _ _ _, fun b hb => by simp [Value.ownBlock] at hb⟩⟩
    rw [hln.bel.block _ (by simp)]
    exact heap_alloc_new _ _
  have HLR : Hid (LnR w2.heap.size w.heap.size w2 v Ls) := hr
  obtain ⟨gl, lcap, hv, hglb, hglx, hgl, _⟩ := hr.ex
  subst hv
  have hLb : Ls.length ≤ 20000001 := by rw [← HSC.out]; have := hln.lb; simp; omega
  clear hln HSC HL
  generalize hB : w2.heap.size = B at *
  generalize hX : w.heap.size = X at *
  have HBX : Hid (w2.heap.size = B ∧ w.heap.size = X) := ⟨hB, hX⟩
  have HBW : Hid (∀ w4, Fz B X w2 w4 → Below w.heap.size w w4) := fun w4 h => by
    have h0 := HB2.out
    rw [← hX] at h0
    exact h.below h0 (by rw [← hB]; exact h0.size) (by rw [hX]; exact Nat.le_refl _)
  have HLN : Hid (∀ (wr : World) (u : Value) (d : DS) (st : PS) (t : List Tok), AmAt wr B X d → DR d st → TkL B X wr u t → B ≤ wr.heap.size → d.labs.length ≤ 29999999 → d.size ≤ 512 → d.ops.length ≤ d.size → Calls Tryd.prog 16 #[.pointer (some ⟨X, 0, none⟩), u] wr (LinA B X wr (lineV st t))) := fun wr u d st t h1 h2 h3 h4 h5 h6 h7 => rline_any h1 h2 h3 h4 h5 h6 h7
  generalize hnL : Ls.length = nL at *
  go_wp2_with fail
  go_loopg [7] nL (fun gh iv wr => ∃ (i : Nat) (d : DS) (st : PS), gh = nL - i ∧ i ≤ nL ∧ iv = .int .i64 (i : Int) ∧ AmAt wr B X d ∧ DR d st ∧ GdP st ∧ Fz B X w2 wr ∧ foldV ⟨[], [], 0, []⟩ Ls = foldV st (Ls.drop i) ∧ st.labs.length ≤ i)
  case atStart => exact ⟨0, _, _, by omega, by omega, rfl, HAM.out, ⟨rfl, rfl, rfl, rfl, rfl, rfl⟩, gd_nil, Fz.refl _ _ _, rfl, by simp⟩
  case round =>
    obtain ⟨i, d, st2, rfl, hi, rfl, ham, hdr, hgd, hfz, hfo, hlb⟩ := hrel
    have HAM2 : Hid (AmAt wr B X d) := ham
    have HDR : Hid (DR d st2) := hdr
    have HGD : Hid (GdP st2) := hgd
    have HFZ : Hid (Fz B X w2 wr) := hfz
    have HFO : Hid (foldV ⟨[], [], 0, []⟩ Ls = foldV st2 (Ls.drop i)) := hfo
    have hBr : B ≤ wr.heap.size := by have := hfz.size; rw [← HBX.out.1]; exact this
    by_cases hlt : i < nL
    · have hd : decide ((i : Int) < (nL : Int)) = true := by simp; omega
      obtain ⟨g2, c2, hv2, k1, k2, k3, k4⟩ := (HLR.out.fz hfz).ex
      injection hv2 with e1 e2 e3
      injection e1 with e1
      injection e1 with e1
      subst e1
      obtain ⟨u, hu, htk⟩ := k4 i (by rw [hnL]; exact hlt)
      have ea := ad_own gl (i * 2)
      have hgr : gl < wr.heap.size := k3
      have HCL : Hid (Calls Tryd.prog 16 #[.pointer (some ⟨X, 0, none⟩), u] wr (LinA B X wr (lineV st2 (Ls.getD i [])))) := HLN.out wr u d st2 _ ham hdr htk hBr (by rw [hdr.labs]; omega) (by rw [hdr.size]; exact hgd.small) (by rw [hdr.ops, hdr.size, ← hgd.size]; exact all_len _)
      have HFA : Hid (foldV st2 (Ls.drop i) = match lineV st2 (Ls.getD i []) with | .error e => .error e | .ok st' => foldV st' (Ls.drop (i + 1))) := fold_at (by rw [hnL]; exact hlt)
      have HGL : Hid (∀ st', lineV st2 (Ls.getD i []) = .ok st' → GdP st' ∧ st'.labs.length ≤ i + 1) := fun st' h => ⟨gd_line hgd h, by have := line_labs h; omega⟩
      have HIW : Hid (wrap64 ((i : Int) + 1) = ((i + 1 : Nat) : Int)) := lb_wrap (n := nL) (by omega) hlt
      clear ham hdr hgd hfz hfo hlb k1 k2 k3 k4 e2 e3 htk HLR HAM HLN
      generalize lineV st2 (Ls.getD i []) = Y at *
      go_wp2_with fail
      refine HCL.out.mono ?_
      cases Y with
      | error ep =>
        obtain ⟨e0, p⟩ := ep
        rintro e w4 ⟨hm, hf4⟩
        obtain rfl := hm
        have HAE : Hid (A = .error (e0, p)) := by rw [Hid, HPD.out, HFO.out, HFA.out]; rfl
        have HF4 : Hid (Below w.heap.size w w4) := HBW.out w4 (HFZ.out.trans hf4)
        have he := HER.out _ HAE.out
        clear hf4
        simp only [Er] at he
        rcases he with rfl | rfl | rfl | rfl
        all_goals
          go_wp2_with fail
          go_ret3
          rw [HAE.out]
          exact ⟨rfl, HF4.out⟩
      | ok st' =>
        rintro e w4 ⟨⟨he, d', ham', hdr'⟩, hf4⟩
        obtain rfl := he
        have HR4 : Hid (AmAt w4 B X d' ∧ DR d' st' ∧ GdP st' ∧ Fz B X w2 w4 ∧ foldV ⟨[], [], 0, []⟩ Ls = foldV st' (Ls.drop (i + 1)) ∧ st'.labs.length ≤ i + 1) := ⟨ham', hdr', (HGL.out st' rfl).1, HFZ.out.trans hf4, by rw [HFO.out, HFA.out], (HGL.out st' rfl).2⟩
        clear ham' hdr' hf4
        go_wp2_with fail
        go_roundg (nL - (i + 1))
        case rel => exact ⟨i + 1, d', st', rfl, hlt, by first | rw [HIW.out] | go_num, HR4.out⟩
        case measure => exact ll_meas hlt
    · have hd : decide ((i : Int) < (nL : Int)) = false := by simp; omega
      have HAR : Hid (A = resD d.labs d.ops d.ats d.nms) := by
        rw [Hid, HPD.out, HFO.out, List.drop_eq_nil_of_le (by omega)]
        exact res_doc hdr
      obtain ⟨vo, va, vn, vl, hmv⟩ := ham
      have HMV : Hid (AmV wr B X d vo va vn vl) := hmv
      have HBR : Hid (∀ wx, Below wr.heap.size wr wx → Below w.heap.size w wx) := fun wx h => HBW.out wx (HFZ.out.trans (Fz.of h hBr))
      obtain ⟨oa, oc, hvo⟩ := own_slice hmv.ro
      obtain ⟨na, ncp, hvn⟩ := own_slice hmv.rn
      obtain ⟨aa, acp, hva⟩ := own_slice hmv.ra
      subst hvo hvn hva
      have hno : d.ops.length ≤ 512 := by rw [hdr.ops]; exact hgd.len
      have HLE : Hid (d.ats.length = d.ops.length ∧ d.nms.length = d.ops.length) := ⟨hdr.la, hdr.ln⟩
      have HCX : Hid (∀ wx, Below wr.heap.size wr wx → X < wx.heap.size ∧ wx.cell? ⟨X, 0, none⟩ = some (.slice oa d.ops.length oc) ∧ wx.cell? ⟨X, 1, none⟩ = some (.slice aa d.ats.length acp) ∧ wx.cell? ⟨X, 2, none⟩ = some (.slice na d.nms.length ncp)) := fun wx h => by
        have h1 := (HMV.out.later h).blk
        exact ⟨heap_lt h1, by rw [cell_at h1]; rfl, by rw [cell_at h1]; rfl, by rw [cell_at h1]; rfl⟩
      have HRW : Hid (∀ j, j < d.ops.length → ∃ go ga gn, oa = some ⟨go, 0, none⟩ ∧ aa = some ⟨ga, 0, none⟩ ∧ na = some ⟨gn, 0, none⟩ ∧ ∀ wx, Below wr.heap.size wr wx → (go < wx.heap.size ∧ ga < wx.heap.size ∧ gn < wx.heap.size) ∧ (wx.cell? ⟨go, j * 2, none⟩ = some (.int .i64 (d.ops.getD j (0, 0)).1) ∧ wx.cell? ⟨go, j * 2 + 1, none⟩ = some (.int .i64 (d.ops.getD j (0, 0)).2)) ∧ wx.cell? ⟨ga, j, none⟩ = some (.int .i64 (d.ats.getD j 0 : Int)) ∧ wx.cell? ⟨gn, j * 2, none⟩ = some (.string (S (d.nms.getD j ([], 0)).1)) ∧ wx.cell? ⟨gn, j * 2 + 1, none⟩ = some (.int .i64 ((d.nms.getD j ([], 0)).2 : Int))) := fun j hj => by
        obtain ⟨go, h1⟩ := own_some_at HMV.out.ro (by omega)
        obtain ⟨ga, h2⟩ := own_some_at HMV.out.ra (by have := HLE.out.1; omega)
        obtain ⟨gn, h3⟩ := own_some_at HMV.out.rn (by have := HLE.out.2; omega)
        subst h1 h2 h3
        refine ⟨go, ga, gn, rfl, rfl, rfl, fun wx h => ?_⟩
        have hx := HMV.out.later h
        have ha : (intC d.ats)[j]? = some (.int .i64 (d.ats.getD j 0 : Int)) := by
          have hj2 : j < d.ats.length := by have := HLE.out.1; omega
          simp [intC, hj2]
        exact ⟨⟨(own_block hx.ro go rfl).2, (own_block hx.ra ga rfl).2, (own_block hx.rn gn rfl).2⟩, ⟨own_cells hx.ro _ _ (opsC_get d.ops j hj).1, own_cells hx.ro _ _ (opsC_get d.ops j hj).2⟩, own_cells hx.ra _ _ ha, own_cells hx.rn _ _ (tkC_get d.nms j (by have := HLE.out.2; omega)).1, own_cells hx.rn _ _ (tkC_get d.nms j (by have := HLE.out.2; omega)).2⟩
      have HCD : Hid (∀ j, j < d.ops.length → ∃ c : Nat, c ≤ 40 ∧ (d.ops.getD j (0, 0)).1 = (c : Int)) := fun j hj => by
        have h1 := hgd.ok (d.ops.getD j (0, 0)) (by rw [← hdr.ops]; have : d.ops.getD j (0, 0) = d.ops[j] := by rw [List.getD_eq_getElem?_getD, List.getElem?_eq_getElem hj]; rfl
                                                    rw [this]; exact List.getElem_mem hj)
        obtain ⟨h2, h3, _⟩ := h1
        exact ⟨(d.ops.getD j (0, 0)).1.toNat, by omega, by omega⟩
      have HUS : Hid (∀ j, j < d.ops.length → (d.nms.getD j ([], 0)).1 ≠ [] → d.ats.getD j 0 + 3 ≤ 512) := fun j hj hn => by
        have h1 := us_mem 0 j d.ats d.nms (by have := HLE.out.2; omega) (by have := HLE.out; omega) hn
        rw [← hdr.us] at h1
        exact (hgd.us _ h1).2.2.1
      have HLK : Hid (∀ n k, lab d.labs n = some k → k ≤ 512) := fun n k h => lab_le hgd.lb (by rw [← hdr.labs]; exact h)
      have HLC : Hid (∀ (wx : World) (n : List UInt8), Below wr.heap.size wr wx → Calls Tryd.prog 17 #[.pointer (some ⟨X, 0, none⟩), .string (S n)] wx fun e w' => e = .returned (.int .i64 (cdZ (lab d.labs n))) ∧ Below wx.heap.size wx w') := fun wx n h => rlabel_any ⟨_, _, _, _, HMV.out.later h⟩ (by rw [hdr.labs]; omega) n
      have HRA : Hid (∀ j, j < d.ops.length → resD d.labs (d.ops.drop j) (d.ats.drop j) (d.nms.drop j) = (if (d.nms.getD j ([], 0)).1 = [] then (match resD d.labs (d.ops.drop (j + 1)) (d.ats.drop (j + 1)) (d.nms.drop (j + 1)) with | .error e => .error e | .ok r => .ok (d.ops.getD j (0, 0) :: r)) else match lab d.labs (d.nms.getD j ([], 0)).1 with | none => .error (11, (d.nms.getD j ([], 0)).2) | some k => match resD d.labs (d.ops.drop (j + 1)) (d.ats.drop (j + 1)) (d.nms.drop (j + 1)) with | .error e => .error e | .ok r => .ok (((d.ops.getD j (0, 0)).1, if (d.ops.getD j (0, 0)).1 = 26 then (k : Int) else (k : Int) - (d.ats.getD j 0 : Int) - 3) :: r))) := fun j hj => resD_at hj HLE.out.1 HLE.out.2
      clear hfo hlb HLR HAM HLN HFO hmv hdr hgd hfz HER HPD HA
      obtain ⟨no, hno2⟩ : ∃ no, d.ops.length = no := ⟨_, rfl⟩
      have HNO : Hid (d.ops.length = no) := hno2
      rw [HLE.out.1, HLE.out.2, hno2] at HCX
      rw [hno2] at HRW HCD HUS HRA hno
      go_wp2_with fail
      obtain ⟨w8, rfl⟩ : ∃ w8, w8 = wr := ⟨_, rfl⟩
      go_loopg [10, 11] no (fun gh ov iv wx => ∃ (j : Nat) (pre : List (Int × Int)), gh = no - j ∧ j ≤ no ∧ iv = .int .i64 (j : Int) ∧ ov = .string (strOfNums (allB pre)) ∧ A = preA pre (resD d.labs (d.ops.drop j) (d.ats.drop j) (d.nms.drop j)) ∧ (allB pre).length ≤ 9 * j ∧ Below w8.heap.size w8 wx)
      case atStart => exact ⟨0, [], by omega, by omega, rfl, rfl, by rw [HAR.out]; simp only [List.drop_zero]; cases resD d.labs d.ops d.ats d.nms <;> rfl, by simp [allB], Below.refl _ _⟩
      case round =>
        obtain ⟨j, pre, rfl, hj, rfl, rfl, hA, hpl, hbl⟩ := hrel
        obtain ⟨hXl, c0, c1, c2⟩ := HCX.out _ hbl
        have HBL : Hid (Below w8.heap.size w8 wr) := hbl
        by_cases hlt2 : j < no
        · have hd2 : decide ((j : Int) < (no : Int)) = true := by simp; omega
          obtain ⟨go, ga, gn, rfl, rfl, rfl, hrw⟩ := HRW.out j hlt2
          obtain ⟨⟨g1, g2, g3⟩, ⟨o0, o1⟩, a0, n0, n1⟩ := hrw _ hbl
          have hcl : ∀ wx, Below wr.heap.size wr wx → (X < wx.heap.size ∧ go < wx.heap.size ∧ ga < wx.heap.size ∧ gn < wx.heap.size) ∧ (wx.cell? ⟨X, 0, none⟩ = some (.slice (some ⟨go, 0, none⟩) no oc) ∧ wx.cell? ⟨X, 1, none⟩ = some (.slice (some ⟨ga, 0, none⟩) no acp) ∧ wx.cell? ⟨X, 2, none⟩ = some (.slice (some ⟨gn, 0, none⟩) no ncp)) ∧ wx.cell? ⟨ga, j, none⟩ = some (.int .i64 (d.ats.getD j 0 : Int)) ∧ wx.cell? ⟨gn, j * 2 + 1, none⟩ = some (.int .i64 ((d.nms.getD j ([], 0)).2 : Int)) := fun wx h => ⟨⟨Nat.lt_of_lt_of_le hXl h.size, Nat.lt_of_lt_of_le g1 h.size, Nat.lt_of_lt_of_le g2 h.size, Nat.lt_of_lt_of_le g3 h.size⟩, ⟨cell_later h hXl c0, cell_later h hXl c1, cell_later h hXl c2⟩, cell_later h g2 a0, cell_later h g3 n1⟩
          have HCL : Hid (∀ wx, Below wr.heap.size wr wx → (X < wx.heap.size ∧ go < wx.heap.size ∧ ga < wx.heap.size ∧ gn < wx.heap.size) ∧ (wx.cell? ⟨X, 0, none⟩ = some (.slice (some ⟨go, 0, none⟩) no oc) ∧ wx.cell? ⟨X, 1, none⟩ = some (.slice (some ⟨ga, 0, none⟩) no acp) ∧ wx.cell? ⟨X, 2, none⟩ = some (.slice (some ⟨gn, 0, none⟩) no ncp)) ∧ wx.cell? ⟨ga, j, none⟩ = some (.int .i64 (d.ats.getD j 0 : Int)) ∧ wx.cell? ⟨gn, j * 2 + 1, none⟩ = some (.int .i64 ((d.nms.getD j ([], 0)).2 : Int))) := hcl
          have ea1 := ad_own go (j * 2)
          have ea2 := ad_own ga j
          have ea3 := ad_own gn (j * 2)
          obtain ⟨c, hc40, hcc⟩ := HCD.out j hlt2
          rw [hcc] at o0
          obtain ⟨x, hx⟩ : ∃ x, (d.ops.getD j (0, 0)).2 = x := ⟨_, rfl⟩
          rw [hx] at o1
          have hop : d.ops.getD j (0, 0) = ((c : Int), x) := by rw [← hcc, ← hx]
          have HRJ := HRA.out j hlt2
          rw [hop] at HRJ
          simp only at HRJ
          have HBY : Hid (∀ (w : World) (x : Int), Calls Tryd.prog 18 #[.agg #[.int .i64 (c : Int), .int .i64 x]] w fun e w' => e = .returned (.string (strOfNums (bytesI c x))) ∧ Below w.heap.size w w') := fun w x => rbytes_any c hc40 x w
          have HCAT : Hid (∀ (x : Int) (w : World), (Op.stringOp .add (strOfNums (allB pre)) (strOfNums (bytesI c x))).run Tryd.prog w = .ok (.string (strOfNums (allB (pre ++ [((c : Int), x)])))) w) := fun x w => by
            rw [allB_snoc, ← str_app]
            exact run_string_add_sum w _ _ (by rw [strOfNums_size, strOfNums_size]; have := by_len c x; omega)
          have HLX : Hid (∀ x : Int, (allB (pre ++ [((c : Int), x)])).length ≤ 9 * (j + 1)) := fun x => by
            rw [allB_snoc, List.length_append]
            have := by_len c x
            omega
          have HIW : Hid (wrap64 ((j : Int) + 1) = ((j + 1 : Nat) : Int)) := lb_wrap (n := no) (by omega) hlt2
          clear hrw hcl HRW HCX HCD HRA hx hop hcc
          by_cases hn : (d.nms.getD j ([], 0)).1 = []
          · rw [if_pos hn] at HRJ
            have HA2 : Hid (A = preA (pre ++ [((c : Int), x)]) (resD d.labs (d.ops.drop (j + 1)) (d.ats.drop (j + 1)) (d.nms.drop (j + 1)))) := by rw [Hid, hA, HRJ]; exact preA_snoc _ _ _
            rw [hn] at n0
            have e0 : S [] = ⟨#[]⟩ := rfl
            rw [e0] at n0
            have hcat := HCAT.out x
            obtain ⟨R, hR⟩ : ∃ R, strOfNums (allB (pre ++ [((c : Int), x)])) = R := ⟨_, rfl⟩
            have HR : Hid (strOfNums (allB (pre ++ [((c : Int), x)])) = R) := hR
            rw [hR] at hcat
            have HBX2 : Hid (∀ w : World, Calls Tryd.prog 18 #[.agg #[.int .i64 (c : Int), .int .i64 x]] w fun e w' => e = .returned (.string (strOfNums (bytesI c x))) ∧ Below w.heap.size w w') := fun w => HBY.out w x
            generalize strOfNums (allB pre) = so at *
            generalize strOfNums (bytesI c x) = sb at *
            clear hA HRJ hn e0 hR HCAT HBY hpl HUS
            generalize (d.ats.getD j 0 : Int) = az at *
            generalize ((d.nms.getD j ([], 0)).2 : Int) = qz at *
            go_wp2_with fail
            refine (HBX2.out _).mono ?_
            rintro e w5 ⟨rfl, hb5⟩
            have HB5 : Hid (Below w8.heap.size w8 w5) := below_then HBL.out (below_then (below_a1 _ _) hb5)
            clear hb5
            go_wp2_with fail
            go_roundg (no - (j + 1))
            case rel => exact ⟨j + 1, pre ++ [((c : Int), x)], rfl, hlt2, by first | rw [HIW.out] | go_num, by rw [HR.out], HA2.out, HLX.out x, HB5.out⟩
            case measure => exact ll_meas hlt2
          · rw [if_neg hn] at HRJ
            obtain ⟨n, hnn⟩ : ∃ n, (d.nms.getD j ([], 0)).1 = n := ⟨_, rfl⟩
            have hat := HUS.out j hlt2 hn
            rw [hnn] at n0 hn HRJ
            have HLJ : Hid (∀ wx : World, Below w8.heap.size w8 wx → Calls Tryd.prog 17 #[.pointer (some ⟨X, 0, none⟩), .string (S n)] wx fun e w' => e = .returned (.int .i64 (cdZ (lab d.labs n))) ∧ Below wx.heap.size wx w') := fun wx h => HLC.out wx n h
            have hNe : (S n : ByteArray) ≠ ⟨#[]⟩ := fun e => hn (by have := (S_eq ⟨#[]⟩ n).1 e; simpa using this)
            have hE1 := str_ne hNe
            have hE2 : (S n).toList.isEmpty = false := by
              rw [ba_toList]
              simp [S, hn]
            generalize S n = N at *
            obtain ⟨at_, hat2⟩ : ∃ at_, d.ats.getD j 0 = at_ := ⟨_, rfl⟩
            rw [hat2] at hat HRJ a0 HCL
            obtain ⟨q, hq⟩ : ∃ q, (d.nms.getD j ([], 0)).2 = q := ⟨_, rfl⟩
            rw [hq] at n1 HCL HRJ
            clear hat2 hq hnn HUS HLC
            cases hlab : lab d.labs n with
            | none =>
              rw [hlab] at HLJ HRJ
              have HAE : Hid (A = .error (11, q)) := by rw [Hid, hA, HRJ]; rfl
              have hcz : cdZ none = -1 := rfl
              rw [hcz] at HLJ
              clear hA HRJ hlab hcz HCAT HBY hpl HLX hn hNe
              generalize strOfNums (allB pre) = so at *
              go_wp2_with fail
              refine (HLJ.out _ (below_then HBL.out (below_a1 _ _))).mono ?_
              rintro e w5 ⟨rfl, hb5⟩
              have hw5 : Below wr.heap.size wr w5 := below_then (below_a1 _ _) hb5
              obtain ⟨⟨l1, l2, l3, l4⟩, ⟨d0, d1, d2⟩, d3, d4⟩ := HCL.out w5 hw5
              have HB5 : Hid (Below w8.heap.size w8 w5) := below_then HBL.out hw5
              clear hb5 hw5 c0 c1 c2 o0 o1 a0 n0 n1 g1 g2 g3 hXl
              go_wp2_with fail
              go_quiet (fail)
              go_wp2_with fail
              go_ret3
              rw [HAE.out]
              exact ⟨rfl, HBR.out _ (below_drawn HB5.out _)⟩
            | some k =>
              have hk := HLK.out n k hlab
              rw [hlab] at HLJ HRJ
              simp only at HRJ
              have hcz : cdZ (some k) = (k : Int) := rfl
              rw [hcz] at HLJ
              have hk0 : decide ((k : Int) < 0) = false := by simp
              obtain ⟨y, hy⟩ : ∃ y, (if (c : Int) = 26 then (k : Int) else (k : Int) - (at_ : Int) - 3) = y := ⟨_, rfl⟩
              rw [hy] at HRJ
              have HA2 : Hid (A = preA (pre ++ [((c : Int), y)]) (resD d.labs (d.ops.drop (j + 1)) (d.ats.drop (j + 1)) (d.nms.drop (j + 1)))) := by rw [Hid, hA, HRJ]; exact preA_snoc _ _ _
              have hcat := HCAT.out y
              obtain ⟨R, hR⟩ : ∃ R, strOfNums (allB (pre ++ [((c : Int), y)])) = R := ⟨_, rfl⟩
              have HR : Hid (strOfNums (allB (pre ++ [((c : Int), y)])) = R) := hR
              rw [hR] at hcat
              have HBX2 : Hid (∀ w : World, Calls Tryd.prog 18 #[.agg #[.int .i64 (c : Int), .int .i64 y]] w fun e w' => e = .returned (.string (strOfNums (bytesI c y))) ∧ Below w.heap.size w w') := fun w => HBY.out w y
              generalize strOfNums (allB pre) = so at *
              generalize strOfNums (bytesI c y) = sb at *
              obtain ⟨wk1, wk2, wk3, wk4⟩ := pk_wrap hk hat
              clear hA HRJ hlab hcz HCAT HBY hpl hn hNe hR
              go_wp2_with fail
              refine (HLJ.out _ (below_then HBL.out (below_a1 _ _))).mono ?_
              rintro e w5 ⟨rfl, hb5⟩
              have hw5 : Below wr.heap.size wr w5 := below_then (below_a1 _ _) hb5
              obtain ⟨⟨l1, l2, l3, l4⟩, ⟨d0, d1, d2⟩, d3, d4⟩ := HCL.out w5 hw5
              have HB5 : Hid (Below w8.heap.size w8 w5) := below_then HBL.out hw5
              have hob : w5.heap[wr.heap.size]? = some (.cells #[.int .i64 (c : Int), .int .i64 x] 53 (0, 0)) := by rw [hb5.block _ (by simp)]; exact heap_alloc_new _ _
              have p0 : w5.cell? ⟨wr.heap.size, 0, none⟩ = some (.int .i64 (c : Int)) := by rw [cell_at hob]; rfl
              have p1 : w5.cell? ⟨wr.heap.size, 1, none⟩ = some (.int .i64 x) := by rw [cell_at hob]; rfl
              have pf : w5.frozen? ⟨wr.heap.size, 1, none⟩ = false := frozen_at hob 1
              have hlo : wr.heap.size < w5.heap.size := heap_lt hob
              have HST : Hid (Below wr.heap.size wr (w5.setCell ⟨wr.heap.size, 1, none⟩ (.int .i64 y))) := hw5.trans (((Keep.refl [wr.heap.size] w5).setCell _ _ (Or.inl (by simp))).below hw5.size (by simp))
              clear hb5 hw5 c0 c1 c2 o0 o1 a0 n0 n1 g1 g2 g3 hXl hob HCL
              by_cases h26 : c = 26
              · have hyk : y = (k : Int) := by rw [← hy, if_pos (by rw [h26]; rfl)]
                have hc26 : ((c : Int) == 26) = true := by rw [h26]; rfl
                clear hy h26 hk hat
                go_wp2_with fail
                rw [← hyk]
                refine (HBX2.out _).mono ?_
                rintro e w6 ⟨rfl, hb6⟩
                have HB6 : Hid (Below w8.heap.size w8 w6) := below_then (below_then HBL.out HST.out) hb6
                clear hb6
                go_wp2_with fail
                go_roundg (no - (j + 1))
                case rel => exact ⟨j + 1, pre ++ [((c : Int), y)], rfl, hlt2, by first | rw [HIW.out] | go_num, by rw [HR.out], HA2.out, HLX.out y, HB6.out⟩
                case measure => exact ll_meas hlt2
              · have hyk : y = (k : Int) - (at_ : Int) - 3 := by rw [← hy, if_neg (fun e => h26 (by omega))]
                have hc26 : ((c : Int) == 26) = false := by simp only [beq_eq_false_iff_ne, ne_eq]; omega
                clear hy h26 hk hat
                go_wp2_with fail
                rw [← hyk]
                refine (HBX2.out _).mono ?_
                rintro e w6 ⟨rfl, hb6⟩
                have HB6 : Hid (Below w8.heap.size w8 w6) := below_then (below_then HBL.out HST.out) hb6
                clear hb6
                go_wp2_with fail
                go_roundg (no - (j + 1))
                case rel => exact ⟨j + 1, pre ++ [((c : Int), y)], rfl, hlt2, by first | rw [HIW.out] | go_num, by rw [HR.out], HA2.out, HLX.out y, HB6.out⟩
                case measure => exact ll_meas hlt2
        · have hd2 : decide ((j : Int) < (no : Int)) = false := by simp; omega
          obtain rfl : no = j := by omega
          have HAE : Hid (A = .ok pre) := by
            rw [Hid, hA, List.drop_eq_nil_of_le (by rw [HNO.out]; exact Nat.le_refl _)]
            simp [resD, preA]
          clear hA HRA HLC HRW HCD HUS
          generalize hst : strOfNums (allB pre) = so at *
          have HST : Hid (strOfNums (allB pre) = so) := hst
          clear hst
          go_wp2_with fail
          go_ret3
          rw [HAE.out]
          exact ⟨by rw [← HST.out]; rfl, HBR.out _ HBL.out⟩
end Go.Proofs.YtbjopdmchmekpaaDoor
