/- Data: what an event makes of all, beside what the document asks of it. -/
import Derived.Test.YtbpnookejildnaaDoorHiLg
import Derived.Test.YtbpnookejildnaaDoorHiW
import Derived.Test.YtbpnookejildnaaDoorHiT
namespace Go.Proofs.YtbpnookejildnaaDoor.Hi
open Go.ChangeShapes Go.WideShapes Go.ChangeAt Go.RowKit
set_option linter.unusedVariables false

/-- The accesses of one transaction among the first events. -/
def acOf (n : Int) (e : Ev) : Option Ac := if e.tx = n ∧ (e.kd = 2 ∨ e.kd = 3) then some ⟨e.cl, e.vl, decide (e.kd = 3)⟩ else none
def acD (H : List Ev) (n : Int) (i : Nat) : List Ac := (H.take i).filterMap (acOf n)
theorem ac_step {H : List Ev} {i : Nat} (n : Int) (hi : i < H.length) : acD H n (i + 1) = acD H n i ++ (acOf n (ne H i)).toList := by
  unfold acD
  rw [take_ne hi, List.filterMap_append]
  congr 1
theorem ac_other {H : List Ev} {i : Nat} {n : Int} (hi : i < H.length) (h : (ne H i).tx ≠ n) : acD H n (i + 1) = acD H n i := by
  rw [ac_step n hi]; unfold acOf; rw [if_neg (fun hc => h hc.1)]; simp
theorem ac_kind {H : List Ev} {i : Nat} {n : Int} (hi : i < H.length) (h2 : (ne H i).kd ≠ 2) (h3 : (ne H i).kd ≠ 3) : acD H n (i + 1) = acD H n i := by
  rw [ac_step n hi]; unfold acOf; rw [if_neg (fun hc => by rcases hc.2 with h | h <;> omega)]; simp
theorem ac_hit {H : List Ev} {i : Nat} {n : Int} (hi : i < H.length) (h : (ne H i).tx = n) (hk : (ne H i).kd = 2 ∨ (ne H i).kd = 3) : acD H n (i + 1) = acD H n i ++ [⟨(ne H i).cl, (ne H i).vl, decide ((ne H i).kd = 3)⟩] := by
  rw [ac_step n hi]; unfold acOf; rw [if_pos ⟨h, hk⟩]; rfl
theorem cnt_other {H : List Ev} {i : Nat} {kind n : Int} (hi : i < H.length) (h0 : 0 ≤ n) (h : (ne H i).tx ≠ n) : cntD H (i + 1) kind n = cntD H i kind n := by
  rw [cnt_step hi, hit_no (Or.inr ⟨h0, h⟩)]; simp
theorem cnt_kind {H : List Ev} {i : Nat} {kind n : Int} (hi : i < H.length) (h : (ne H i).kd ≠ kind) : cntD H (i + 1) kind n = cntD H i kind n := by
  rw [cnt_step hi, hit_no (Or.inl h)]; simp
theorem cnt_hit {H : List Ev} {i : Nat} {kind n : Int} (hi : i < H.length) (h : (ne H i).kd = kind) (h2 : n < 0 ∨ (ne H i).tx = n) : cntD H (i + 1) kind n = cntD H i kind n + 1 := by
  rw [cnt_step hi, hit_yes h h2]; simp
theorem ts_other {H : List Ev} {i : Nat} {n : Int} (hi : i < H.length) (h : (ne H i).tx ≠ n) : tsAt H n (i + 1) = tsAt H n i := by
  rw [ts_step n hi]; unfold tsStep; rw [if_pos h]
/-- Events of one that was not opened. -/
theorem none_cnt {H : List Ev} {n : Int} (kind : Int) (h0 : 0 ≤ n) : ∀ i, i ≤ H.length → (∀ k, k < i → (ne H k).tx ≠ n) → cntD H i kind n = 0 := by
  intro i
  induction i with
  | zero => intro _ _; exact cnt_zero _ _ _
  | succ i ih => intro hi hk; rw [cnt_other (by omega) h0 (hk i (by omega))]; exact ih (by omega) fun k h => hk k (by omega)
theorem none_ts {H : List Ev} {n : Int} : ∀ i, i ≤ H.length → (∀ k, k < i → (ne H k).tx ≠ n) → tsAt H n i = ts0 H n := by
  intro i
  induction i with
  | zero => intro _ _; exact ts_zero _ _
  | succ i ih => intro hi hk; rw [ts_other (by omega) (hk i (by omega))]; exact ih (by omega) fun k h => hk k (by omega)
theorem none_ac {H : List Ev} {n : Int} : ∀ i, i ≤ H.length → (∀ k, k < i → (ne H k).tx ≠ n) → acD H n i = [] := by
  intro i
  induction i with
  | zero => intro _ _; rfl
  | succ i ih => intro hi hk; rw [ac_other (by omega) (hk i (by omega))]; exact ih (by omega) fun k h => hk k (by omega)
theorem hitF_iff (kind tx : Int) (e : Ev) : hitF kind tx e = true ↔ e.kd = kind ∧ e.tx = tx := by unfold hitF; simp
theorem none_fst {H : List Ev} {n kind : Int} {i : Nat} (hi : i < H.length) (h : (ne H i).tx = n) (hk : (ne H i).kd = kind) (hn : ∀ k, k < i → (ne H k).kd = kind → (ne H k).tx ≠ n) : fstD H kind n = (i : Int) := by
  refine fst_at hi ((hitF_iff _ _ _).2 ⟨hk, h⟩) fun k hk' => ?_
  cases hh : hitF kind n (ne H k) with
  | false => rfl
  | true =>
    obtain ⟨h1, h2⟩ := (hitF_iff _ _ _).1 hh
    exact absurd h2 (hn k hk' h1)
theorem cnt_none {H : List Ev} {n kind : Int} {i : Nat} (hi : i ≤ H.length) (h0 : 0 ≤ n) (h : cntD H i kind n = 0) : ∀ k, k < i → (ne H k).kd = kind → (ne H k).tx ≠ n := by
  intro k hk h1 h2
  have e := cnt_hit (H := H) (i := k) (kind := kind) (n := n) (by omega) h1 (Or.inr h2)
  have := cnt_mono H kind n (show k + 1 ≤ i by omega)
  omega
/-- How far one has come, by the counts of its events: begun, published, complete, ended. -/
def Stg (sg : Int) (c1 c4 c5 c6 : Nat) : Prop :=
  (sg = 0 ∧ c1 = 0 ∧ c4 = 0 ∧ c5 = 0 ∧ c6 = 0) ∨ (sg = 1 ∧ c1 = 1 ∧ c4 = 0 ∧ c5 = 0 ∧ c6 = 0) ∨ (sg = 2 ∧ c1 = 1 ∧ c4 = 1 ∧ c5 = 0 ∧ c6 = 0) ∨ (sg = 3 ∧ c1 = 1 ∧ c4 = 0 ∧ c5 = 0 ∧ c6 = 1) ∨ (sg = 3 ∧ c1 = 1 ∧ c4 = 1 ∧ c5 = 1 ∧ c6 = 0)
/-- A transaction of the program's beside the list. -/
structure Rt (H : List Ev) (i : Nat) (n : Int) (x : Tr) : Prop where
  th : x.th = (ne H (fstD H 7 n).toNat).th
  bg : x.bg = (ne H (fstD H 7 n).toNat).at_
  sg : Stg x.sg (cntD H i 1 n) (cntD H i 4 n) (cntD H i 5 n) (cntD H i 6 n)
  st0 : cntD H i 4 n = 0 → x.st = 0
  st1 : cntD H i 4 n ≠ 0 → x.st = (ne H (fstD H 4 n).toNat).sp ∧ 0 < x.st
  en : (tsAt H n i).en = x.en
  st : (tsAt H n i).st = x.st
  er : (tsAt H n i).er = x.er
  met : (tsAt H n i).met = decide (x.sg ≠ 0)
  sn : x.sn = if 0 < x.st then x.st - 1 else (tsAt H n i).sn
  ac : x.ac = acD H n i
theorem Rt.other {H : List Ev} {i : Nat} {n : Int} {x : Tr} (h : Rt H i n x) (hi : i < H.length) (h0 : 0 ≤ n) (hn : (ne H i).tx ≠ n) : Rt H (i + 1) n x := by
  have c := fun kind => cnt_other (kind := kind) hi h0 hn
  have t := ts_other hi hn
  have a := ac_other hi hn
  exact ⟨h.th, h.bg, by rw [c, c, c, c]; exact h.sg, by rw [c]; exact h.st0, by rw [c]; exact h.st1, by rw [t]; exact h.en, by rw [t]; exact h.st, by rw [t]; exact h.er, by rw [t]; exact h.met, by rw [t]; exact h.sn, by rw [a]; exact h.ac⟩
/-- All of the program's beside the list. -/
structure Ri (H : List Ev) (i : Nat) (p : Pa) : Prop where
  at0 : i = 0 → p.at_ = 0
  at1 : 0 < i → p.at_ = (ne H (i - 1)).at_
  at2 : 0 ≤ p.at_
  n : p.txs.length = cntD H i 7 (-1)
  pn : p.pub.length = cntD H i 4 (-1)
  co : p.co = (cntD H i 5 (-1) : Int)
  tx : ∀ n, n < p.txs.length → Rt H i (n : Int) (nt p.txs n)
  pub : ∀ k, k < p.pub.length → p.pub.getD k 0 < p.txs.length ∧ (nt p.txs (p.pub.getD k 0)).st = (k : Int) + 1
  stp : ∀ n, n < p.txs.length → (nt p.txs n).st ≠ 0 → ∃ k, k < p.pub.length ∧ p.pub.getD k 0 = n ∧ (nt p.txs n).st = (k : Int) + 1
  un : ∀ k, k < i → 0 ≤ (ne H k).tx ∧ (ne H k).tx < (p.txs.length : Int)
  cl : ∀ k, k < i → (ne H k).kd = 2 ∨ (ne H k).kd = 3 → 0 ≤ (ne H k).cl ∧ (ne H k).cl < 1024
theorem ri_zero (H : List Ev) : Ri H 0 pa0 := by
  refine ⟨fun _ => rfl, fun h => by omega, by decide, by rw [cnt_zero]; rfl, by rw [cnt_zero]; rfl, by rw [cnt_zero]; rfl, ?_, ?_, ?_, fun k h => by omega, fun k h => by omega⟩ <;> intro k h <;> simp [pa0] at h
theorem getD_snoc {l : List Nat} {k : Nat} {n : Nat} (h : k ≤ l.length) : (l ++ [n]).getD k 0 = if k = l.length then n else l.getD k 0 := by
  simp only [List.getD_eq_getElem?_getD]
  by_cases e : k = l.length
  · subst e; simp
  · rw [if_neg e, List.getElem?_append_left (by omega)]
/-- One of those that are there went on. -/
theorem Ri.upd {H : List Ev} {i : Nat} {p : Pa} (R : Ri H i p) (hi : i < H.length) {n : Nat} (hn : n < p.txs.length) (htx : (ne H i).tx = (n : Int)) {t : Tr} {pub' : List Nat} {co' : Int} (ha : p.at_ ≤ (ne H i).at_)
    (hk : (ne H i).kd ≠ 7) (ht : Rt H (i + 1) (n : Int) t) (hp : (pub' = p.pub ∧ t.st = (nt p.txs n).st ∧ (ne H i).kd ≠ 4) ∨ (pub' = p.pub ++ [n] ∧ t.st = (p.pub.length : Int) + 1 ∧ (ne H i).kd = 4 ∧ (nt p.txs n).st = 0))
    (hc : co' = p.co + if (ne H i).kd = 5 then 1 else 0) (hcl : (ne H i).kd = 2 ∨ (ne H i).kd = 3 → 0 ≤ (ne H i).cl ∧ (ne H i).cl < 1024) : Ri H (i + 1) ⟨(ne H i).at_, p.txs.set n t, pub', co'⟩ := by
  have hset := fun j => nt_set (l := p.txs) (i := n) (j := j) (t := t) hn
  have hlen : (p.txs.set n t).length = p.txs.length := by simp
  refine ⟨fun h => by omega, fun _ => rfl, by have := R.at2; show 0 ≤ (ne H i).at_; omega, ?_, ?_, ?_, ?_, ?_, ?_, ?_, ?_⟩
  · show (p.txs.set n t).length = _
    rw [hlen, cnt_kind hi hk]; exact R.n
  · show pub'.length = _
    rcases hp with ⟨rfl, _, h4⟩ | ⟨rfl, _, h4, _⟩
    · rw [cnt_kind hi h4]; exact R.pn
    · rw [cnt_hit hi h4 (Or.inl (by decide)), ← R.pn]; simp
  · show co' = _
    rw [hc, R.co]
    split
    · rename_i h; rw [cnt_hit hi h (Or.inl (by decide))]; omega
    · rename_i h; rw [cnt_kind hi h]; omega
  · intro m hm
    show Rt H (i + 1) (m : Int) (nt (p.txs.set n t) m)
    rw [hset]
    split
    · rename_i e; subst e; exact ht
    · rename_i e; exact (R.tx m (by simpa using hm)).other hi (by omega) (by omega)
  · intro k hk'
    show pub'.getD k 0 < (p.txs.set n t).length ∧ (nt (p.txs.set n t) (pub'.getD k 0)).st = (k : Int) + 1
    rw [hset, hlen]
    rcases hp with ⟨rfl, h2, _⟩ | ⟨rfl, h2, _, h0⟩
    · have := R.pub k hk'
      refine ⟨this.1, ?_⟩
      split
      · rename_i e; rw [h2, ← e]; exact this.2
      · exact this.2
    · have hk2 : k ≤ p.pub.length := by simp at hk'; omega
      rw [getD_snoc hk2]
      split
      · rename_i e; subst e; rw [if_pos rfl]; exact ⟨hn, h2⟩
      · rename_i e
        have := R.pub k (by omega)
        rw [if_neg (fun e' => by rw [e'] at this; omega)]
        exact this
  · intro m hm hst
    show ∃ k, k < pub'.length ∧ pub'.getD k 0 = m ∧ (nt (p.txs.set n t) m).st = (k : Int) + 1
    have hst' : (nt (p.txs.set n t) m).st ≠ 0 := hst
    rw [hset] at hst' ⊢
    have hm' : m < p.txs.length := by simpa using hm
    rcases hp with ⟨rfl, h2, _⟩ | ⟨rfl, h2, _, h0⟩
    · have hs : (if m = n then t else nt p.txs m).st = (nt p.txs m).st := by
        split
        · rename_i e; rw [h2, e]
        · rfl
      rw [hs] at hst' ⊢
      exact R.stp m hm' hst'
    · by_cases e : m = n
      · subst e
        refine ⟨p.pub.length, by simp, by rw [getD_snoc (Nat.le_refl _), if_pos rfl], by rw [if_pos rfl]; exact h2⟩
      · rw [if_neg e] at hst' ⊢
        obtain ⟨k, h1, h3, h4⟩ := R.stp m hm' hst'
        exact ⟨k, by simp; omega, by rw [getD_snoc (by omega), if_neg (by omega)]; exact h3, h4⟩
  · intro k hk'
    show _ ∧ _ < ((p.txs.set n t).length : Int)
    rw [hlen]
    by_cases e : k = i
    · subst e; rw [htx]; omega
    · exact R.un k (by omega)
  · intro k hk' h
    by_cases e : k = i
    · subst e; exact hcl h
    · exact R.cl k (by omega) h
theorem may_takes {H : List Ev} {i : Nat} {p : Pa} (R : Ri H i p) (hi : i < H.length) : (mayD H i = true ∧ ∃ q, takeD p (ne H i) = some q ∧ Ri H (i + 1) q) ∨ (mayD H i = false ∧ takeD p (ne H i) = none) := by
  by_cases ha : (ne H i).at_ < p.at_
  · refine Or.inr ⟨?_, ?_⟩
    · unfold mayD mayF
      dsimp only
      rw [if_pos]
      by_cases h0 : i = 0
      · have := R.at0 h0; exact Or.inl (by omega)
      · have := R.at1 (by omega); exact Or.inr ⟨by omega, by omega⟩
    · unfold takeD; rw [if_pos ha]
  have hat : ¬ ((ne H i).at_ < 0 ∨ (0 < i ∧ (ne H i).at_ < (ne H (i - 1)).at_)) := by
    have := R.at2
    rintro (h | ⟨h1, h2⟩)
    · omega
    · have := R.at1 h1; omega
  by_cases h7 : (ne H i).kd = 7
  · have hm : mayD H i = decide ((ne H i).tx = (cntD H i 7 (-1) : Int)) := by
      unfold mayD mayF mayG
      dsimp only
      rw [if_neg hat, if_pos h7]
    have ht : takeD p (ne H i) = openD { p with at_ := (ne H i).at_ } (ne H i) := by unfold takeD; rw [if_neg ha, if_pos h7]
    rw [hm, ht]
    unfold openD
    dsimp only
    rw [R.n]
    by_cases htx : (ne H i).tx = (cntD H i 7 (-1) : Int)
    · refine Or.inl ⟨by simpa using htx, _, by rw [if_pos htx], ?_⟩
      have hlen := R.n
      have hno : ∀ k, k < i → (ne H k).tx ≠ (p.txs.length : Int) := fun k hk => by have := R.un k hk; omega
      have hto : (ne H i).tx = (p.txs.length : Int) := by omega
      have hf : fstD H 7 (p.txs.length : Int) = (i : Int) := none_fst hi hto h7 fun k hk _ => hno k hk
      have hz : ∀ kind, kind ≠ 7 → cntD H (i + 1) kind (p.txs.length : Int) = 0 := fun kind hk => by
        rw [cnt_kind hi (by omega)]
        exact none_cnt kind (by omega) i (by omega) hno
      have hts : tsAt H (p.txs.length : Int) (i + 1) = ts0 H (p.txs.length : Int) := by
        rw [ts_step _ hi, none_ts i (by omega) hno]
        unfold tsStep
        rw [if_neg (by simp [hto]), if_neg (by omega), if_neg (by omega), if_neg (by omega)]
      refine ⟨fun h => by omega, fun _ => rfl, by have := R.at2; show 0 ≤ (ne H i).at_; omega, ?_, ?_, ?_, ?_, ?_, ?_, ?_, ?_⟩
      · show (p.txs ++ _).length = _
        rw [cnt_hit hi h7 (Or.inl (by decide))]
        simp [hlen]
      · show p.pub.length = _
        rw [cnt_kind hi (by omega)]; exact R.pn
      · show p.co = _
        rw [cnt_kind hi (by omega)]; exact R.co
      · intro n hn
        have hn' : n ≤ p.txs.length := by simp at hn; omega
        show Rt H (i + 1) (n : Int) (nt (p.txs ++ _) n)
        rw [nt_snoc hn']
        split
        · rename_i e
          subst e
          have h0 : ts0 H (p.txs.length : Int) = ⟨(p.pub.length : Int), false, 0, -1, 0⟩ := by
            unfold ts0
            rw [hf, Int.toNat_natCast, R.pn]
          refine ⟨by rw [hf]; rfl, by rw [hf]; rfl, ?_, fun _ => rfl, fun h => absurd (hz 4 (by decide)) h, ?_, ?_, ?_, ?_, ?_, ?_⟩
          · exact Or.inl ⟨rfl, hz 1 (by decide), hz 4 (by decide), hz 5 (by decide), hz 6 (by decide)⟩
          · rw [hts, h0]
          · rw [hts, h0]
          · rw [hts, h0]
          · rw [hts, h0]; rfl
          · rw [hts, h0]; simp
          · rw [ac_kind hi (by omega) (by omega), none_ac i (by omega) hno]
        · rename_i e
          exact (R.tx n (by omega)).other hi (by omega) (by omega)
      · intro k hk
        have := R.pub k hk
        show p.pub.getD k 0 < (p.txs ++ _).length ∧ (nt (p.txs ++ _) (p.pub.getD k 0)).st = _
        rw [nt_snoc (Nat.le_of_lt this.1), if_neg (by omega)]
        exact ⟨Nat.lt_of_lt_of_le this.1 (by simp), this.2⟩
      · intro n hn hst
        have hn' : n ≤ p.txs.length := by simp at hn; omega
        have hst' : (nt (p.txs ++ _) n).st ≠ 0 := hst
        show ∃ k, k < p.pub.length ∧ p.pub.getD k 0 = n ∧ (nt (p.txs ++ _) n).st = _
        rw [nt_snoc hn'] at hst' ⊢
        split at hst'
        · exact absurd rfl hst'
        · rename_i e
          rw [if_neg e]
          exact R.stp n (by omega) hst'
      · intro k hk
        show _ ∧ _ < ((p.txs ++ _).length : Int)
        simp only [List.length_append, List.length_singleton]
        by_cases e : k = i
        · subst e; omega
        · have := R.un k (by omega); omega
      · intro k hk h
        by_cases e : k = i
        · subst e; omega
        · exact R.cl k (by omega) h
    · exact Or.inr ⟨by simpa using htx, by rw [if_neg htx]⟩
  by_cases htx : (ne H i).tx < 0 ∨ (p.txs.length : Int) ≤ (ne H i).tx
  · refine Or.inr ⟨?_, ?_⟩
    · unfold mayD mayF mayG
      dsimp only
      rw [if_neg hat, if_neg h7, if_pos (by rw [← R.n]; exact htx)]
    · unfold takeD
      rw [if_neg ha, if_neg h7, if_pos htx]
  obtain ⟨n, hn⟩ : ∃ n : Nat, (ne H i).tx = (n : Int) := ⟨(ne H i).tx.toNat, by omega⟩
  have hnl : n < p.txs.length := by omega
  have X := R.tx n hnl
  have htk : takeD p (ne H i) = if (ne H i).th ≠ (nt p.txs n).th then none else kindD { p with at_ := (ne H i).at_ } n (ne H i) := by
    unfold takeD
    rw [if_neg ha, if_neg h7, if_neg htx, hn, Int.toNat_natCast]
  have hmy : mayD H i = if 0 < cntD H i 6 (n : Int) + cntD H i 5 (n : Int) ∨ (nt p.txs n).th ≠ (ne H i).th then false
      else if (ne H i).kd = 1 then decide (cntD H i 1 (n : Int) = 0)
      else if (ne H i).kd = 2 ∨ (ne H i).kd = 3 then decide (cntD H i 1 (n : Int) = 1 ∧ cntD H i 4 (n : Int) = 0 ∧ 0 ≤ (ne H i).cl ∧ (ne H i).cl < 1024)
      else if (ne H i).kd = 4 then decide (cntD H i 1 (n : Int) = 1 ∧ cntD H i 4 (n : Int) = 0 ∧ (ne H i).sp = (p.pub.length : Int) + 1)
      else if (ne H i).kd = 5 then decide (cntD H i 4 (n : Int) ≠ 0 ∧ (ne H i).sp = (ne H (fstD H 4 (n : Int)).toNat).sp ∧ (ne H i).sp = p.co + 1)
      else if (ne H i).kd = 6 then decide (cntD H i 1 (n : Int) = 1 ∧ cntD H i 4 (n : Int) = 0) else false := by
    unfold mayD mayF mayG
    dsimp only
    rw [if_neg hat, if_neg h7, hn, if_neg (by have := R.n; omega), ← X.th, R.pn, R.co]
  have hle : p.at_ ≤ (ne H i).at_ := by omega
  by_cases hth : (ne H i).th = (nt p.txs n).th
  case neg => exact Or.inr ⟨by rw [hmy, if_pos (Or.inr fun e => hth e.symm)], by rw [htk, if_pos hth]⟩
  rw [htk, if_neg (by simpa using hth)]
  have hth' : ¬ (nt p.txs n).th ≠ (ne H i).th := by simpa using hth.symm
  unfold kindD beginD touchD publishD finishD endD
  dsimp only
  have hts := ts_step (n : Int) hi
  unfold tsStep at hts
  rw [if_neg (by simpa using hn)] at hts
  have X1 := X.sg
  by_cases k1 : (ne H i).kd = 1
  · rw [if_pos k1]
    rw [if_pos (Or.inl k1)] at hts
    rw [hmy, if_pos k1]
    rcases X1 with ⟨s, c1, c4, c5, c6⟩ | ⟨s, c1, c4, c5, c6⟩ | ⟨s, c1, c4, c5, c6⟩ | ⟨s, c1, c4, c5, c6⟩ | ⟨s, c1, c4, c5, c6⟩
    · refine Or.inl ⟨by rw [if_neg (by rw [c5, c6]; simp; exact hth.symm), c1]; rfl, _, by rw [if_pos s]; rfl, ?_⟩
      have hst := X.st0 c4
      have hmet := X.met
      rw [s] at hmet
      refine R.upd hi hnl hn hle h7 ?_ (Or.inl ⟨rfl, rfl, by omega⟩) (by rw [if_neg (by omega)]; simp) (fun h => by omega)
      have d1 : cntD H (i + 1) 1 (n : Int) = 1 := by rw [cnt_hit hi k1 (Or.inr hn), c1]
      have d4 : cntD H (i + 1) 4 (n : Int) = 0 := by rw [cnt_kind hi (by omega), c4]
      have d5 : cntD H (i + 1) 5 (n : Int) = 0 := by rw [cnt_kind hi (by omega), c5]
      have d6 : cntD H (i + 1) 6 (n : Int) = 0 := by rw [cnt_kind hi (by omega), c6]
      refine ⟨X.th, X.bg, Or.inr (Or.inl ⟨rfl, d1, d4, d5, d6⟩), fun _ => hst, fun h => absurd d4 h, ?_, ?_, ?_, ?_, ?_, ?_⟩
      · rw [hts]; exact X.en
      · rw [hts]; exact X.st
      · rw [hts]; exact X.er
      · rw [hts]; rfl
      · rw [hts]
        show (ne H i).sn = if 0 < (nt p.txs n).st then _ else _
        rw [hst, if_neg (by decide)]
        dsimp only
        rw [if_pos (Or.inl (by rw [hmet]; rfl))]
      · rw [ac_kind hi (by omega) (by omega)]; exact X.ac
    · exact Or.inr ⟨by rw [c1]; split <;> rfl, by rw [if_neg (by omega)]; rfl⟩
    · exact Or.inr ⟨by rw [c1]; split <;> rfl, by rw [if_neg (by omega)]; rfl⟩
    · exact Or.inr ⟨by rw [c1]; split <;> rfl, by rw [if_neg (by omega)]; rfl⟩
    · exact Or.inr ⟨by rw [c1]; split <;> rfl, by rw [if_neg (by omega)]; rfl⟩
  rw [if_neg k1]
  rw [if_neg k1] at hmy
  by_cases k2 : (ne H i).kd = 2 ∨ (ne H i).kd = 3
  · rw [if_pos k2]
    rw [hmy, if_pos k2]
    by_cases hs : (nt p.txs n).sg = 1
    case neg =>
      refine Or.inr ⟨?_, by rw [if_neg (fun h => hs h.1)]; rfl⟩
      rcases X1 with ⟨s, c1, c4, c5, c6⟩ | ⟨s, c1, c4, c5, c6⟩ | ⟨s, c1, c4, c5, c6⟩ | ⟨s, c1, c4, c5, c6⟩ | ⟨s, c1, c4, c5, c6⟩
      · rw [c1]; split <;> simp
      · exact absurd s hs
      · rw [c4]; split <;> simp
      · rw [c5, c6]; simp
      · rw [c5, c6]; simp
    obtain ⟨c1, c4, c5, c6⟩ : cntD H i 1 (n : Int) = 1 ∧ cntD H i 4 (n : Int) = 0 ∧ cntD H i 5 (n : Int) = 0 ∧ cntD H i 6 (n : Int) = 0 := by
      rcases X1 with ⟨s, c⟩ | ⟨s, c⟩ | ⟨s, c⟩ | ⟨s, c⟩ | ⟨s, c⟩
      · omega
      · exact c
      · omega
      · omega
      · omega
    by_cases hcl : 0 ≤ (ne H i).cl ∧ (ne H i).cl < 1024
    case neg => exact Or.inr ⟨by rw [if_neg (by rw [c5, c6]; simp; exact hth.symm), c1, c4]; simpa using hcl, by rw [if_neg (fun h => hcl h.2)]; rfl⟩
    refine Or.inl ⟨by rw [if_neg (by rw [c5, c6]; simp; exact hth.symm), c1, c4]; simpa using hcl, _, by rw [if_pos ⟨hs, hcl⟩]; rfl, ?_⟩
    have hst := X.st0 c4
    have hmet := X.met
    have hsn := X.sn
    rw [hst, if_neg (by decide)] at hsn
    rw [hs] at hmet
    refine R.upd hi hnl hn hle h7 ?_ (Or.inl ⟨rfl, rfl, by omega⟩) (by rw [if_neg (by omega)]; simp) (fun _ => hcl)
    have d1 : cntD H (i + 1) 1 (n : Int) = 1 := by rw [cnt_kind hi (by omega), c1]
    have d4 : cntD H (i + 1) 4 (n : Int) = 0 := by rw [cnt_kind hi (by omega), c4]
    have d5 : cntD H (i + 1) 5 (n : Int) = 0 := by rw [cnt_kind hi (by omega), c5]
    have d6 : cntD H (i + 1) 6 (n : Int) = 0 := by rw [cnt_kind hi (by omega), c6]
    have hac : (nt p.txs n).ac ++ [⟨(ne H i).cl, (ne H i).vl, decide ((ne H i).kd = 3)⟩] = acD H (n : Int) (i + 1) := by rw [ac_hit hi hn k2, X.ac]
    by_cases k3 : (ne H i).kd = 3
    · rw [if_neg (by omega), if_neg (by omega), if_neg (by omega)] at hts
      refine ⟨X.th, X.bg, Or.inr (Or.inl ⟨hs, d1, d4, d5, d6⟩), fun _ => hst, fun h => absurd d4 h, by rw [hts]; exact X.en, by rw [hts]; exact X.st, by rw [hts]; exact X.er, by rw [hts]; exact X.met, ?_, hac⟩
      rw [hts]
      show (if (ne H i).kd = 3 then (nt p.txs n).sn else max (nt p.txs n).sn (ne H i).sn) = if 0 < (nt p.txs n).st then _ else _
      rw [if_pos k3, hst, if_neg (by decide)]
      exact hsn
    · rw [if_pos (by omega)] at hts
      refine ⟨X.th, X.bg, Or.inr (Or.inl ⟨hs, d1, d4, d5, d6⟩), fun _ => hst, fun h => absurd d4 h, by rw [hts]; exact X.en, by rw [hts]; exact X.st, by rw [hts]; exact X.er, ?_, ?_, hac⟩
      · rw [hts]; show true = decide ((nt p.txs n).sg ≠ 0); rw [hs]; rfl
      · rw [hts]
        show (if (ne H i).kd = 3 then (nt p.txs n).sn else max (nt p.txs n).sn (ne H i).sn) = if 0 < (nt p.txs n).st then _ else _
        rw [if_neg k3, hst, if_neg (by decide), hsn]
        dsimp only
        split
        · rename_i h
          rcases h with h | h
          · rw [hmet] at h; cases h
          · omega
        · rename_i h
          have : ¬ (tsAt H (n : Int) i).sn < (ne H i).sn := fun hh => h (Or.inr hh)
          omega
  rw [if_neg k2]
  rw [if_neg k2] at hmy
  by_cases k4 : (ne H i).kd = 4
  · rw [if_pos k4]
    rw [hmy, if_pos k4]
    by_cases hs : (nt p.txs n).sg = 1
    case neg =>
      refine Or.inr ⟨?_, by rw [if_neg (fun h => hs h.1)]⟩
      rcases X1 with ⟨s, c1, c4, c5, c6⟩ | ⟨s, c1, c4, c5, c6⟩ | ⟨s, c1, c4, c5, c6⟩ | ⟨s, c1, c4, c5, c6⟩ | ⟨s, c1, c4, c5, c6⟩
      · rw [c1]; split <;> simp
      · exact absurd s hs
      · rw [c4]; split <;> simp
      · rw [c5, c6]; simp
      · rw [c5, c6]; simp
    obtain ⟨c1, c4, c5, c6⟩ : cntD H i 1 (n : Int) = 1 ∧ cntD H i 4 (n : Int) = 0 ∧ cntD H i 5 (n : Int) = 0 ∧ cntD H i 6 (n : Int) = 0 := by
      rcases X1 with ⟨s, c⟩ | ⟨s, c⟩ | ⟨s, c⟩ | ⟨s, c⟩ | ⟨s, c⟩
      · omega
      · exact c
      · omega
      · omega
      · omega
    by_cases hsp : (ne H i).sp = (p.pub.length : Int) + 1
    case neg => exact Or.inr ⟨by rw [if_neg (by rw [c5, c6]; simp; exact hth.symm), c1, c4]; simpa using hsp, by rw [if_neg (fun h => hsp h.2)]⟩
    refine Or.inl ⟨by rw [if_neg (by rw [c5, c6]; simp; exact hth.symm), c1, c4]; simpa using hsp, _, by rw [if_pos ⟨hs, hsp⟩], ?_⟩
    have hst := X.st0 c4
    refine R.upd hi hnl hn hle h7 ?_ (Or.inr ⟨rfl, hsp, k4, hst⟩) (by rw [if_neg (by omega)]; simp) (fun h => by omega)
    have d1 : cntD H (i + 1) 1 (n : Int) = 1 := by rw [cnt_kind hi (by omega), c1]
    have d4 : cntD H (i + 1) 4 (n : Int) = 1 := by rw [cnt_hit hi k4 (Or.inr hn), c4]
    have d5 : cntD H (i + 1) 5 (n : Int) = 0 := by rw [cnt_kind hi (by omega), c5]
    have d6 : cntD H (i + 1) 6 (n : Int) = 0 := by rw [cnt_kind hi (by omega), c6]
    have hf4 : fstD H 4 (n : Int) = (i : Int) := none_fst hi hn k4 fun k hk h => cnt_none (by omega) (by omega) c4 k hk h
    rw [if_neg (by omega), if_pos k4] at hts
    refine ⟨X.th, X.bg, Or.inr (Or.inr (Or.inl ⟨rfl, d1, d4, d5, d6⟩)), fun h => by omega, fun _ => ⟨by rw [hf4]; rfl, by show 0 < (ne H i).sp; omega⟩, by rw [hts], by rw [hts], by rw [hts]; exact X.er, ?_, ?_, ?_⟩
    · rw [hts]; show (tsAt H (n : Int) i).met = _; rw [X.met, hs]; rfl
    · show (ne H i).sp - 1 = if 0 < (ne H i).sp then _ else _
      rw [if_pos (by omega)]
    · rw [ac_kind hi (by omega) (by omega)]; exact X.ac
  rw [if_neg k4]
  rw [if_neg k4] at hmy
  by_cases k5 : (ne H i).kd = 5
  · rw [if_pos k5]
    rw [hmy, if_pos k5]
    by_cases hs : (nt p.txs n).sg = 2
    case neg =>
      refine Or.inr ⟨?_, by rw [if_neg (fun h => hs h.1)]⟩
      rcases X1 with ⟨s, c1, c4, c5, c6⟩ | ⟨s, c1, c4, c5, c6⟩ | ⟨s, c1, c4, c5, c6⟩ | ⟨s, c1, c4, c5, c6⟩ | ⟨s, c1, c4, c5, c6⟩
      · rw [c4]; split <;> simp
      · rw [c4]; split <;> simp
      · exact absurd s hs
      · rw [c5, c6]; simp
      · rw [c5, c6]; simp
    obtain ⟨c1, c4, c5, c6⟩ : cntD H i 1 (n : Int) = 1 ∧ cntD H i 4 (n : Int) = 1 ∧ cntD H i 5 (n : Int) = 0 ∧ cntD H i 6 (n : Int) = 0 := by
      rcases X1 with ⟨s, c⟩ | ⟨s, c⟩ | ⟨s, c⟩ | ⟨s, c⟩ | ⟨s, c⟩
      · omega
      · omega
      · exact c
      · omega
      · omega
    obtain ⟨hst, hst0⟩ := X.st1 (by omega)
    by_cases hsp : (ne H i).sp = (nt p.txs n).st ∧ (ne H i).sp = p.co + 1
    case neg => exact Or.inr ⟨by rw [if_neg (by rw [c5, c6]; simp; exact hth.symm), c4, ← hst]; simpa using hsp, by rw [if_neg (fun h => hsp h.2)]⟩
    refine Or.inl ⟨by rw [if_neg (by rw [c5, c6]; simp; exact hth.symm), c4, ← hst]; simpa using hsp, _, by rw [if_pos ⟨hs, hsp⟩], ?_⟩
    refine R.upd hi hnl hn hle h7 ?_ (Or.inl ⟨rfl, rfl, k4⟩) (by rw [if_pos k5]) (fun h => by omega)
    have d1 : cntD H (i + 1) 1 (n : Int) = 1 := by rw [cnt_kind hi (by omega), c1]
    have d4 : cntD H (i + 1) 4 (n : Int) = 1 := by rw [cnt_kind hi (by omega), c4]
    have d5 : cntD H (i + 1) 5 (n : Int) = 1 := by rw [cnt_hit hi k5 (Or.inr hn), c5]
    have d6 : cntD H (i + 1) 6 (n : Int) = 0 := by rw [cnt_kind hi (by omega), c6]
    rw [if_neg (by omega), if_neg k4, if_neg (by omega)] at hts
    refine ⟨X.th, X.bg, Or.inr (Or.inr (Or.inr (Or.inr ⟨rfl, d1, d4, d5, d6⟩))), fun h => by omega, fun _ => ⟨hst, hst0⟩, by rw [hts]; exact X.en, by rw [hts]; exact X.st, by rw [hts]; exact X.er, ?_, by rw [hts]; exact X.sn, ?_⟩
    · rw [hts]; show (tsAt H (n : Int) i).met = _; rw [X.met, hs]; rfl
    · rw [ac_kind hi (by omega) (by omega)]; exact X.ac
  rw [if_neg k5]
  rw [if_neg k5] at hmy
  by_cases k6 : (ne H i).kd = 6
  · rw [if_pos k6]
    rw [hmy, if_pos k6]
    by_cases hs : (nt p.txs n).sg = 1
    case neg =>
      refine Or.inr ⟨?_, by rw [if_neg hs]; rfl⟩
      rcases X1 with ⟨s, c1, c4, c5, c6⟩ | ⟨s, c1, c4, c5, c6⟩ | ⟨s, c1, c4, c5, c6⟩ | ⟨s, c1, c4, c5, c6⟩ | ⟨s, c1, c4, c5, c6⟩
      · rw [c1]; split <;> simp
      · exact absurd s hs
      · rw [c4]; split <;> simp
      · rw [c5, c6]; simp
      · rw [c5, c6]; simp
    obtain ⟨c1, c4, c5, c6⟩ : cntD H i 1 (n : Int) = 1 ∧ cntD H i 4 (n : Int) = 0 ∧ cntD H i 5 (n : Int) = 0 ∧ cntD H i 6 (n : Int) = 0 := by
      rcases X1 with ⟨s, c⟩ | ⟨s, c⟩ | ⟨s, c⟩ | ⟨s, c⟩ | ⟨s, c⟩
      · omega
      · exact c
      · omega
      · omega
      · omega
    refine Or.inl ⟨by rw [if_neg (by rw [c5, c6]; simp; exact hth.symm), c1, c4]; rfl, _, by rw [if_pos hs]; rfl, ?_⟩
    have hst := X.st0 c4
    refine R.upd hi hnl hn hle h7 ?_ (Or.inl ⟨rfl, rfl, k4⟩) (by rw [if_neg k5]; simp) (fun h => by omega)
    have d1 : cntD H (i + 1) 1 (n : Int) = 1 := by rw [cnt_kind hi (by omega), c1]
    have d4 : cntD H (i + 1) 4 (n : Int) = 0 := by rw [cnt_kind hi (by omega), c4]
    have d5 : cntD H (i + 1) 5 (n : Int) = 0 := by rw [cnt_kind hi (by omega), c5]
    have d6 : cntD H (i + 1) 6 (n : Int) = 1 := by rw [cnt_hit hi k6 (Or.inr hn), c6]
    rw [if_neg (by omega), if_neg k4, if_pos k6] at hts
    refine ⟨X.th, X.bg, Or.inr (Or.inr (Or.inr (Or.inl ⟨rfl, d1, d4, d5, d6⟩))), fun _ => hst, fun h => by omega, by rw [hts], by rw [hts]; exact X.st, by rw [hts], ?_, by rw [hts]; exact X.sn, ?_⟩
    · rw [hts]; show (tsAt H (n : Int) i).met = _; rw [X.met, hs]; rfl
    · rw [ac_kind hi (by omega) (by omega)]; exact X.ac
  · rw [if_neg k6]
    rw [if_neg k6] at hmy
    exact Or.inr ⟨by rw [hmy]; split <;> rfl, rfl⟩
end Go.Proofs.YtbpnookejildnaaDoor.Hi
