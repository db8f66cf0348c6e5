/- Data: the program's answers beside the document's. -/
import Derived.Test.YtbpnookejildnaaDoorHiDt
namespace Go.Proofs.YtbpnookejildnaaDoor.Hi
open Go.ChangeShapes Go.WideShapes Go.ChangeAt Go.RowKit
set_option linter.unusedVariables false

theorem ri_read (H : List Ev) : ∀ i, i ≤ H.length → (∃ p, readD (H.take i) = some p ∧ Ri H i p ∧ ∀ k, k < i → mayD H k = true) ∨ (readD (H.take i) = none ∧ ∃ k, k < i ∧ mayD H k = false ∧ good H = k ∧ ∀ j, j < k → mayD H j = true) := by
  intro i
  induction i with
  | zero => intro _; exact Or.inl ⟨pa0, rfl, ri_zero H, fun k h => by omega⟩
  | succ i ih =>
    intro hi
    rcases ih (by omega) with ⟨p, h1, h2, h3⟩ | ⟨h1, k, h2, h3, h4⟩
    · rcases may_takes h2 (by omega) with ⟨m1, q, m2, m3⟩ | ⟨m1, m2⟩
      · refine Or.inl ⟨q, by rw [read_step (by omega) h1]; exact m2, m3, fun k hk => ?_⟩
        by_cases e : k = i
        · subst e; exact m1
        · exact h3 k (by omega)
      · exact Or.inr ⟨by rw [read_step (by omega) h1]; exact m2, i, by omega, m1, good_at (by omega) h1 m2, h3⟩
    · refine Or.inr ⟨?_, k, by omega, h3, h4⟩
      have := readD_none [ne H i] h1
      rwa [← take_ne (by omega)] at this
theorem read_some {H : List Ev} {p : Pa} (h : readD H = some p) : Ri H H.length p ∧ ∀ k, k < H.length → mayD H k = true := by
  have := ri_read H H.length (Nat.le_refl _)
  rw [List.take_length, h] at this
  rcases this with ⟨q, h1, h2, h3⟩ | ⟨h1, _⟩
  · cases h1; exact ⟨h2, h3⟩
  · cases h1
theorem read_no {H : List Ev} (h : readD H = none) : good H < H.length ∧ mayD H (good H) = false ∧ ∀ j, j < good H → mayD H j = true := by
  have := ri_read H H.length (Nat.le_refl _)
  rw [List.take_length, h] at this
  rcases this with ⟨q, h1, h2, h3⟩ | ⟨_, k, h1, h2, h3, h4⟩
  · cases h1
  · rw [h3]; exact ⟨h1, h2, h4⟩
theorem allMay_some {H : List Ev} {p : Pa} (h : readD H = some p) : allMay H = true := allMay_yes (read_some h).2
theorem allMay_none {H : List Ev} (h : readD H = none) : allMay H = false := allMay_no (read_no h).1 (read_no h).2.1
theorem Rt.pos {H : List Ev} {i : Nat} {n : Int} {x : Tr} (h : Rt H i n x) : x.st = 0 ∨ 0 < x.st := by
  by_cases e : cntD H i 4 n = 0
  · exact Or.inl (h.st0 e)
  · exact Or.inr (h.st1 e).2
theorem Ri.st_le {H : List Ev} {p : Pa} (R : Ri H H.length p) {n : Nat} (hn : n < p.txs.length) : (nt p.txs n).st ≤ (H.length : Int) := by
  by_cases e : (nt p.txs n).st = 0
  · omega
  · obtain ⟨k, h1, _, h3⟩ := R.stp n hn e
    have := R.pn
    have := cnt_le H H.length 4 (-1)
    omega
/-- The six numbers that others see. -/
def Six (x y : Tr) : Prop := x.th = y.th ∧ x.bg = y.bg ∧ x.en = y.en ∧ x.st = y.st ∧ x.sn = y.sn ∧ x.er = y.er
theorem nt_txsD (H : List Ev) {m n : Nat} (h : n < m) : nt (txsD H m) n = txD H (n : Int) := by
  unfold nt txsD
  simp [h]
theorem Ri.six {H : List Ev} {p : Pa} (R : Ri H H.length p) (hl : H.length ≤ 925925926000) {n : Nat} (hn : n < p.txs.length) : Six (nt p.txs n) (nt (txsD H (cntD H H.length 7 (-1))) n) := by
  have X := R.tx n hn
  have hs := R.st_le hn
  rw [nt_txsD H (by rw [← R.n]; exact hn)]
  refine ⟨X.th, X.bg, X.en.symm, X.st.symm, ?_, X.er.symm⟩
  show (nt p.txs n).sn = if 0 < (tsAt H (n : Int) H.length).st then wrap64 ((tsAt H (n : Int) H.length).st - 1) else (tsAt H (n : Int) H.length).sn
  rw [X.st, X.sn]
  split
  · unfold wrap64; omega
  · rfl
theorem opn_at {H : List Ev} {p : Pa} (R : Ri H H.length p) {n : Nat} (hn : n < p.txs.length) : (nt p.txs n).bg = (ne H (fstD H 7 (n : Int)).toNat).at_ := (R.tx n hn).bg
theorem ne_ok {H : List Ev} {P : Ev → Prop} (h : ∀ e ∈ H, P e) (h0 : P ev0) (i : Nat) : P (ne H i) := by
  unfold ne
  rw [List.getD_eq_getElem?_getD]
  cases hi : H[i]? with
  | none => exact h0
  | some e => exact h e (List.mem_of_getElem? hi)
theorem pick_len (l : List Tr) (o : List Int) : (pick l o).length = o.length := by simp [pick]
theorem pick_mem {l : List Tr} {o : List Int} {t : Tr} (h : t ∈ pick l o) : ∃ i, i < o.length ∧ t = nt (pick l o) i := by
  obtain ⟨i, hi, rfl⟩ := List.getElem_of_mem h
  exact ⟨i, by rw [pick_len] at hi; exact hi, nt_get hi⟩
theorem timely_iff {H : List Ev} {p : Pa} {o : List Int} (hr : readD H = some p) (hl : H.length ≤ 925925926000) (ha : ∀ e ∈ H, e.at_ ≤ 9223372036854775807) (ho : okOrd p.txs.length o = true) :
    timelyD (pick p.txs o) = true ↔ rtimD (pick (txsD H (cntD H H.length 7 (-1))) o) o.length := by
  have R := (read_some hr).1
  have hb : ∀ t ∈ pick p.txs o, t.bg ≤ 9223372036854775807 := fun t ht => by
    obtain ⟨i, hi, rfl⟩ := pick_mem ht
    obtain ⟨q, h1, h2⟩ := ok_at ho hi
    rw [pick_nt hi h1, opn_at R h2]
    exact ne_ok (P := fun e => e.at_ ≤ 9223372036854775807) ha (by decide) _
  rw [rtim_iff _ hb, pick_len]
  unfold rtimD lateAt
  have hq : ∀ i, i < o.length → (nt (pick p.txs o) i).en = (nt (pick (txsD H (cntD H H.length 7 (-1))) o) i).en ∧ (nt (pick p.txs o) i).bg = (nt (pick (txsD H (cntD H H.length 7 (-1))) o) i).bg := fun i hi => by
    obtain ⟨q, h1, h2⟩ := ok_at ho hi
    rw [pick_nt hi h1, pick_nt hi h1]
    have := R.six hl h2
    exact ⟨this.2.2.1, this.2.1⟩
  constructor
  · intro h i hi k hk hh
    refine h i hi k hk ?_
    rw [(hq i hi).1, (hq k (by omega)).2]; exact hh
  · intro h i hi k hk hh
    refine h i hi k hk ?_
    rw [← (hq i hi).1, ← (hq k (by omega)).2]; exact hh
theorem lastW_ac (H : List Ev) (n c : Int) : ∀ i, i ≤ H.length → lastW (acD H n i) c = valD H n c i := by
  intro i
  induction i with
  | zero => intro _; rfl
  | succ i ih =>
    intro hi
    have ih' := ih (by omega)
    show _ = if (ne H i).kd = 3 ∧ (ne H i).tx = n ∧ (ne H i).cl = c then some (ne H i).vl else valD H n c i
    rw [ac_step n (by omega)]
    unfold acOf
    by_cases h : (ne H i).tx = n ∧ ((ne H i).kd = 2 ∨ (ne H i).kd = 3)
    · rw [if_pos h, Option.toList_some, lastW_snoc, ih']
      dsimp only
      by_cases h3 : (ne H i).kd = 3 ∧ (ne H i).cl = c
      · rw [if_pos ⟨by simpa using h3.1, h3.2⟩, if_pos ⟨h3.1, h.1, h3.2⟩]
      · rw [if_neg (fun hh => h3 ⟨by simpa using hh.1, hh.2⟩), if_neg (fun hh => h3 ⟨hh.1, hh.2.2⟩)]
    · rw [if_neg h, Option.toList_none, List.append_nil, ih', if_neg (fun hh => h ⟨hh.2.1, Or.inr hh.1⟩)]
theorem agrees_snoc (m : Int → Int) (a : Ac) : ∀ (l own : List Ac), agreesFrom m own (l ++ [a]) = (agreesFrom m own l && (a.wr || a.val == (lastW (own ++ l) a.cell).getD (m a.cell))) := by
  intro l
  induction l with
  | nil => intro own; simp [agreesFrom]
  | cons b l ih =>
    intro own
    show (_ && agreesFrom m (own ++ [b]) (l ++ [a])) = ((_ && agreesFrom m (own ++ [b]) l) && _)
    rw [ih, Bool.and_assoc, List.append_assoc]
    rfl
theorem agrees_iff (H : List Ev) (n : Int) (m : Int → Int) : ∀ i, i ≤ H.length → (agreesFrom m [] (acD H n i) = true ↔ ∀ k, k < i → (ne H k).tx = n → (ne H k).kd = 2 → (ne H k).vl = (valD H n (ne H k).cl k).getD (m (ne H k).cl)) := by
  intro i
  induction i with
  | zero => intro _; exact ⟨fun _ k h => by omega, fun _ => rfl⟩
  | succ i ih =>
    intro hi
    have ih' := ih (by omega)
    have hstep : agreesFrom m [] (acD H n (i + 1)) = true ↔ agreesFrom m [] (acD H n i) = true ∧ ((ne H i).tx = n → (ne H i).kd = 2 → (ne H i).vl = (valD H n (ne H i).cl i).getD (m (ne H i).cl)) := by
      rw [ac_step n (by omega)]
      unfold acOf
      by_cases h : (ne H i).tx = n ∧ ((ne H i).kd = 2 ∨ (ne H i).kd = 3)
      · rw [if_pos h, Option.toList_some, agrees_snoc, List.nil_append, lastW_ac H n _ i (by omega), Bool.and_eq_true]
        dsimp only
        by_cases h3 : (ne H i).kd = 3
        · simp [h3]
        · have h2 : (ne H i).kd = 2 := by omega
          simp [h2, h.1]
      · rw [if_neg h, Option.toList_none, List.append_nil]
        exact ⟨fun h1 => ⟨h1, fun h2 h3 => absurd ⟨h2, Or.inl h3⟩ h⟩, fun h1 => h1.1⟩
    rw [hstep, ih']
    constructor
    · rintro ⟨h1, h2⟩ k hk
      by_cases e : k = i
      · subst e; exact h2
      · exact h1 k (by omega)
    · intro h
      exact ⟨fun k hk => h k (by omega), h i (by omega)⟩
def runM (m : Int → Int) (l : List Tr) : Int → Int := l.foldl (fun m x => leaveD x m) m
theorem legal_iff : ∀ (l : List Tr) (m : Int → Int), legalFrom m l = true ↔ ∀ q, q < l.length → agreesD (runM m (l.take q)) (nt l q) = true := by
  intro l
  induction l with
  | nil => intro m; exact ⟨fun _ q h => by simp at h, fun _ => rfl⟩
  | cons x l ih =>
    intro m
    show (agreesD m x && legalFrom (leaveD x m) l) = true ↔ _
    rw [Bool.and_eq_true, ih]
    have hs : ∀ i, nt (x :: l) (i + 1) = nt l i := fun i => by simp [nt]
    constructor
    · rintro ⟨h1, h2⟩ q hq
      cases q with
      | zero => exact h1
      | succ q => rw [hs]; exact h2 q (by simpa using hq)
    · intro h
      refine ⟨h 0 (by simp), fun q hq => ?_⟩
      have := h (q + 1) (by simpa using hq)
      rwa [hs] at this
theorem run_bef {H : List Ev} {p : Pa} (R : Ri H H.length p) (hl : H.length ≤ 925925926000) {o : List Int} (ho : ∀ i, i < o.length → ∃ q : Nat, ni o i = (q : Int) ∧ q < p.txs.length) (c : Int) :
    ∀ q, q ≤ o.length → runM (fun _ => 0) ((pick p.txs o).take q) c = befD H (txsD H (cntD H H.length 7 (-1))) o c q := by
  intro q
  induction q with
  | zero => intro _; rfl
  | succ q ih =>
    intro hq
    have ih' := ih (by omega)
    obtain ⟨n, h1, h2⟩ := ho q (by omega)
    have e : (pick p.txs o).take (q + 1) = (pick p.txs o).take q ++ [nt (pick p.txs o) q] := by
      rw [List.take_add_one, ← nt_get (by rw [pick_len]; omega), List.getElem?_eq_getElem (by rw [pick_len]; omega)]
      rfl
    have X := R.tx n h2
    have S := R.six hl h2
    show _ = if (valD H (ni o q) c H.length).isSome = true ∧ 0 < (nt (txsD H (cntD H H.length 7 (-1))) (ni o q).toNat).st then (valD H (ni o q) c H.length).getD 0 else befD H (txsD H (cntD H H.length 7 (-1))) o c q
    unfold runM at ih' ⊢
    rw [e, List.foldl_append, pick_nt (by omega) h1, h1, Int.toNat_natCast, ← S.2.2.2.1, ← ih']
    show (if (nt p.txs n).st = 0 then _ else (lastW (nt p.txs n).ac c).getD _) = _
    rw [X.ac, lastW_ac H _ _ _ (Nat.le_refl _)]
    rcases X.pos with h0 | h0
    · rw [if_pos h0, if_neg (by omega)]
    · rw [if_neg (by omega)]
      cases valD H (n : Int) c H.length with
      | none => simp
      | some z => simp [h0]
theorem ni_get {o : List Int} {i : Nat} (h : i < o.length) : ni o i = o[i] := by unfold ni; rw [List.getD_eq_getElem?_getD, List.getElem?_eq_getElem h]; rfl
theorem pos_of {o : List Int} (hn : o.Nodup) {q : Nat} (hq : q < o.length) : posD o (ni o q) = q := by
  have h1 := pos_lt hq rfl
  have h2 := pos_is h1
  have e1 : ni o (posD o (ni o q)) = o[posD o (ni o q)] := ni_get h1
  have e2 : ni o q = o[q] := ni_get hq
  have : o[posD o (ni o q)] = o[q] := by rw [← e1, ← e2]; exact h2
  exact (List.getElem_inj hn).1 this
theorem ok_nodup {m : Nat} {o : List Int} (h : okOrd m o = true) : o.Nodup := ((okOrd_iff m o).1 h).2.2
theorem legal_doc {H : List Ev} {p : Pa} {o : List Int} (hr : readD H = some p) (hl : H.length ≤ 925925926000) (ho : okOrd p.txs.length o = true) :
    legalD (pick p.txs o) = true ↔ ∀ i, i < H.length → (ne H i).kd = 2 → (ne H i).vl = rdD H (txsD H (cntD H H.length 7 (-1))) o i := by
  have R := (read_some hr).1
  have ha := fun i hi => ok_at ho (i := i) hi
  unfold legalD
  rw [legal_iff]
  have key : ∀ q, q < o.length → (agreesD (runM (fun _ => 0) ((pick p.txs o).take q)) (nt (pick p.txs o) q) = true ↔ ∀ k, k < H.length → (ne H k).tx = ni o q → (ne H k).kd = 2 → (ne H k).vl = (valD H (ni o q) (ne H k).cl k).getD (befD H (txsD H (cntD H H.length 7 (-1))) o (ne H k).cl q)) := fun q hq => by
    obtain ⟨n, h1, h2⟩ := ha q hq
    unfold agreesD
    rw [pick_nt hq h1, (R.tx n h2).ac, agrees_iff H _ _ _ (Nat.le_refl _), h1]
    simp only [run_bef R hl ha _ q (by omega)]
  have hrd : ∀ i, rdD H (txsD H (cntD H H.length 7 (-1))) o i = (valD H (ne H i).tx (ne H i).cl i).getD (befD H (txsD H (cntD H H.length 7 (-1))) o (ne H i).cl (posD o (ne H i).tx)) := fun i => by
    unfold rdD
    cases valD H (ne H i).tx (ne H i).cl i <;> rfl
  constructor
  · intro h i hi hk
    have hu := R.un i hi
    obtain ⟨q, hq, e⟩ := ok_pos ho (n := (ne H i).tx.toNat) (by omega)
    have e' : ni o q = (ne H i).tx := by rw [e]; omega
    have := (key q hq).1 (h q (by rw [pick_len]; exact hq)) i hi e'.symm hk
    rw [hrd, ← e', pos_of (ok_nodup ho) hq]
    exact this
  · intro h q hq
    rw [pick_len] at hq
    refine (key q hq).2 fun k hk e h2 => ?_
    have := h k hk h2
    rw [hrd, e, pos_of (ok_nodup ho) hq] at this
    exact this
theorem paok_of {H : List Ev} {p : Pa} (hr : readD H = some p) (hv : ∀ e ∈ H, -9223372036854775808 ≤ e.vl ∧ e.vl ≤ 9223372036854775807) : PaOk p := by
  have R := (read_some hr).1
  have hm : ∀ (n : Int) (i : Nat), i ≤ H.length → ∀ y ∈ acD H n i, (0 ≤ y.cell ∧ y.cell < 1024) ∧ (-9223372036854775808 ≤ y.val ∧ y.val ≤ 9223372036854775807) := by
    intro n i
    induction i with
    | zero => intro _ y hy; simp [acD] at hy
    | succ i ih =>
      intro hi y hy
      rw [ac_step n (by omega), List.mem_append] at hy
      rcases hy with hy | hy
      · exact ih (by omega) y hy
      · unfold acOf at hy
        split at hy
        · rename_i h
          simp at hy
          subst hy
          exact ⟨R.cl i (by omega) h.2, ne_ok (P := fun e => -9223372036854775808 ≤ e.vl ∧ e.vl ≤ 9223372036854775807) hv (by decide) i⟩
        · simp at hy
  intro i hi
  rw [show (nt p.txs i).ac = _ from (R.tx i hi).ac]
  refine ⟨fun y hy => (hm _ _ (Nat.le_refl _) y hy).1, fun y hy => ?_⟩
  rw [(R.tx i hi).ac] at hy
  exact (hm _ _ (Nat.le_refl _) y hy).2
/-- Those of one stamp, those of all stamps up to one. -/
def ordB (L : List Tr) (s : Int) (i : Nat) : List Int := ((List.range i).filter fun n => decide ((nt L n).st = s)).map fun n : Nat => (n : Int)
def ordA (L : List Tr) (N : Nat) : Nat → List Int
  | 0 => []
  | s + 1 => ordA L N s ++ ordB L ((s : Int) + 1) N
theorem ordB_step (L : List Tr) (s : Int) (i : Nat) : ordB L s (i + 1) = ordB L s i ++ if (nt L i).st = s then [(i : Int)] else [] := by
  unfold ordB
  rw [List.range_succ, List.filter_append, List.map_append]
  congr 1
  by_cases h : (nt L i).st = s <;> simp [h]
theorem ordA_len (L : List Tr) (N : Nat) : ∀ k, (ordA L N k).length = (List.range N).countP fun n => decide (0 < (nt L n).st ∧ (nt L n).st ≤ (k : Int)) := by
  intro k
  induction k with
  | zero =>
    symm
    show _ = 0
    rw [List.countP_eq_zero]
    intro n _
    simp
    try omega
  | succ k ih =>
    show (ordA L N k ++ ordB L ((k : Int) + 1) N).length = _
    rw [List.length_append, ih]
    unfold ordB
    rw [List.length_map, ← List.countP_eq_length_filter]
    generalize List.range N = l
    induction l with
    | nil => rfl
    | cons x l ihl =>
      simp only [List.countP_cons]
      have : (if decide (0 < (nt L x).st ∧ (nt L x).st ≤ (k : Int)) = true then 1 else 0) + (if decide ((nt L x).st = (k : Int) + 1) = true then 1 else 0) = (if decide (0 < (nt L x).st ∧ (nt L x).st ≤ ((k + 1 : Nat) : Int)) = true then 1 else (0 : Nat)) := by
        simp only [decide_eq_true_eq]
        split <;> split <;> split <;> omega
      rw [← this, ← ihl]
      omega
theorem ord_bound (L : List Tr) (N k i : Nat) (hi : i ≤ N) : (ordA L N k ++ ordB L ((k : Int) + 1) i).length ≤ N := by
  have h1 : (ordB L ((k : Int) + 1) i).length ≤ (ordB L ((k : Int) + 1) N).length := by
    unfold ordB
    rw [List.length_map, List.length_map]
    have : List.range i = (List.range N).take i := by rw [List.take_range]; congr 1; omega
    rw [this]
    exact ((List.take_sublist i _).filter _).length_le
  have h2 : (ordA L N (k + 1)).length ≤ N := by
    rw [ordA_len]
    exact Nat.le_trans List.countP_le_length (by simp)
  have h3 : (ordA L N (k + 1)).length = (ordA L N k).length + (ordB L ((k : Int) + 1) N).length := by
    show (ordA L N k ++ ordB L ((k : Int) + 1) N).length = _
    rw [List.length_append]
  rw [List.length_append]
  omega
theorem filter_range_one {N x : Nat} (hx : x < N) {f : Nat → Bool} (h1 : f x = true) (h2 : ∀ n, n < N → f n = true → n = x) : (List.range N).filter f = [x] := by
  induction N with
  | zero => omega
  | succ N ih =>
    rw [List.range_succ, List.filter_append]
    by_cases e : x = N
    · subst e
      have : (List.range x).filter f = [] := by
        rw [List.filter_eq_nil_iff]
        intro n hn hf
        have := h2 n (by simp at hn; omega) hf
        simp at hn
        omega
      rw [this]
      simp [h1]
    · rw [ih (by omega) fun n hn hf => h2 n (by omega) hf]
      have : f N = false := by
        cases hf : f N with
        | false => rfl
        | true => exact absurd (h2 N (by omega) hf).symm e
      simp [this]
def pubI (p : Pa) : List Int := p.pub.map fun n : Nat => (n : Int)
theorem pub_ord {H : List Ev} {p : Pa} (R : Ri H H.length p) {L : List Tr} (hL : ∀ n, n < p.txs.length → (nt L n).st = (nt p.txs n).st) : ∀ k, ordA L p.txs.length k = (pubI p).take k := by
  intro k
  induction k with
  | zero => rfl
  | succ k ih =>
    show ordA L p.txs.length k ++ ordB L ((k : Int) + 1) p.txs.length = _
    rw [ih]
    by_cases hk : k < p.pub.length
    · have e : ordB L ((k : Int) + 1) p.txs.length = [((p.pub.getD k 0 : Nat) : Int)] := by
        have hp := R.pub k hk
        unfold ordB
        rw [filter_range_one hp.1 (by rw [hL _ hp.1]; simpa using hp.2) fun n hn hf => ?_]
        · rfl
        · rw [hL n hn] at hf
          have hf' : (nt p.txs n).st = (k : Int) + 1 := by simpa using hf
          obtain ⟨j, h1, h2, h3⟩ := R.stp n hn (by omega)
          have : j = k := by omega
          subst this
          exact h2.symm
      rw [e, List.take_add_one]
      unfold pubI
      simp [hk]
    · have e : ordB L ((k : Int) + 1) p.txs.length = [] := by
        unfold ordB
        rw [List.map_eq_nil_iff, List.filter_eq_nil_iff]
        intro n hn hf
        have hn' : n < p.txs.length := by simpa using hn
        rw [hL n hn'] at hf
        have hf' : (nt p.txs n).st = (k : Int) + 1 := by simpa using hf
        obtain ⟨j, h1, h2, h3⟩ := R.stp n hn' (by omega)
        omega
      have hp : (pubI p).length ≤ k := by unfold pubI; simp; omega
      rw [e, List.append_nil, List.take_of_length_le hp, List.take_of_length_le (by omega)]
theorem Ri.pub_le {H : List Ev} {p : Pa} (R : Ri H H.length p) : p.pub.length ≤ p.txs.length := by
  have h := ordA_len p.txs p.txs.length p.pub.length
  rw [pub_ord R (fun _ _ => rfl)] at h
  have : ((pubI p).take p.pub.length).length = p.pub.length := by unfold pubI; simp
  rw [this] at h
  rw [h]
  exact Nat.le_trans List.countP_le_length (by simp)
theorem final_doc {H : List Ev} {p : Pa} (hr : readD H = some p) (hl : H.length ≤ 925925926000) (c : Int) :
    finM p c = befD H (txsD H (cntD H H.length 7 (-1))) (ordA (txsD H (cntD H H.length 7 (-1))) (cntD H H.length 7 (-1)) (cntD H H.length 7 (-1))) c (ordA (txsD H (cntD H H.length 7 (-1))) (cntD H H.length 7 (-1)) (cntD H H.length 7 (-1))).length := by
  have R := (read_some hr).1
  have hL : ∀ n, n < p.txs.length → (nt (txsD H (cntD H H.length 7 (-1))) n).st = (nt p.txs n).st := fun n hn => (R.six hl hn).2.2.2.1.symm
  have e : ordA (txsD H (cntD H H.length 7 (-1))) (cntD H H.length 7 (-1)) (cntD H H.length 7 (-1)) = pubI p := by
    have := pub_ord R hL p.txs.length
    rw [← R.n, R.n, ← R.n] at this
    rw [R.n] at this
    rw [this, List.take_of_length_le (by have := R.pub_le; have := R.n; unfold pubI; simp; omega)]
  rw [e]
  have ho : ∀ i, i < (pubI p).length → ∃ q : Nat, ni (pubI p) i = (q : Int) ∧ q < p.txs.length := fun i hi => by
    have hi' : i < p.pub.length := by unfold pubI at hi; simpa using hi
    refine ⟨p.pub.getD i 0, ?_, (R.pub i hi').1⟩
    unfold ni pubI
    simp [hi']
  rw [← run_bef R hl ho c _ (Nat.le_refl _)]
  have : (pick p.txs (pubI p)).take (pubI p).length = p.pub.map (nt p.txs) := by
    rw [List.take_of_length_le (by rw [pick_len]; exact Nat.le_refl _)]
    unfold pick pubI
    rw [List.map_map]
    congr 1
  rw [this]
  rfl
end Go.Proofs.YtbpnookejildnaaDoor.Hi
