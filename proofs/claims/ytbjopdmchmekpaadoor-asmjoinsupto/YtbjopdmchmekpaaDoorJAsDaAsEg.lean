/- The document's Name. -/
import Derived.Test.YtbjopdmchmekpaaDoorAsK
import Derived.Deep.CutBlock
import Derived.Deep.DeepCutAuto
import Derived.Deep.LoopGhost
import Derived.Test.YtbjopdmchmekpaaDoorAsF
import Derived.Test.YtbjopdmchmekpaaDoorAsI
import Derived.Test.YtbjopdmchmekpaaDoorJAsDnAsEa
import Derived.Test.YtbjopdmchmekpaaDoorCodH
import Derived.Test.YtbjopdmchmekpaaDoorAppW
namespace Go.Proofs.YtbjopdmchmekpaaDoor
open Go.ChangeShapes Go.WideShapes Go.ChangeAt Go.RowKit

def okAt (i : Nat) (b : UInt8) : Bool := isLt b || (decide (i ≠ 0) && isDg b)
theorem lt_dg {b : UInt8} (h : isDg b = true) : isLt b = false := by
  unfold isDg at h
  simp only [Bool.and_eq_true, decide_eq_true_eq] at h
  unfold isLt
  have : ¬ b = 95 := fun e => by subst e; exact absurd h.2 (by decide)
  simp [this]
  omega
theorem name_true (s : ByteArray) (h0 : 0 < s.size) (h16 : s.size ≤ 16) (h : ∀ i (hi : i < s.size), okAt i s[i] = true) : nameV s.data.toList = true := by
  rw [nameV_of s h0]
  have h1 := h 0 h0
  unfold okAt at h1
  simp only [ne_eq, not_true, decide_false, Bool.false_and, Bool.or_false] at h1
  have hd : isDg s[0] = false := by
    cases hh : isDg s[0] with
    | false => rfl
    | true => rw [lt_dg hh] at h1; cases h1
  rw [hd]
  simp only [h16, decide_true, Bool.not_false, Bool.and_self, Bool.true_and]
  rw [List.all_eq_true]
  intro b hb
  obtain ⟨i, hi, rfl⟩ := List.mem_iff_getElem.1 hb
  have hi' : i < s.size := hi
  have h2 := h i hi'
  have h3 := ba_at s i hi'
  rw [List.getElem?_eq_getElem hi] at h3
  injection h3 with h3
  rw [h3]
  unfold okAt at h2
  cases hl : isLt s[i] with
  | true => rfl
  | false =>
    rw [hl] at h2
    simp only [Bool.false_or, Bool.and_eq_true] at h2
    rw [h2.2]
    rfl
theorem name_false (s : ByteArray) (i : Nat) (hi : i < s.size) (h : okAt i s[i] = false) : nameV s.data.toList = false := by
  rw [nameV_of s (by omega)]
  unfold okAt at h
  simp only [Bool.or_eq_false_iff] at h
  by_cases h0 : i = 0
  · subst h0
    cases hd : isDg s[0] with
    | true => simp
    | false =>
      have : (s.data.toList.all fun b => isLt b || isDg b) = false := by
        rw [List.all_eq_false]
        exact ⟨s[0], List.mem_iff_getElem?.2 ⟨0, ba_at s 0 hi⟩, by rw [h.1, hd]; simp⟩
      rw [this]
      simp
  · have hd : isDg s[i] = false := by
      have := h.2
      simpa [h0] using this
    have : (s.data.toList.all fun b => isLt b || isDg b) = false := by
      rw [List.all_eq_false]
      exact ⟨s[i], List.mem_iff_getElem?.2 ⟨i, ba_at s i hi⟩, by rw [h.1, hd]; simp⟩
    rw [this]
    simp
theorem okAt_iff (i : Nat) (cb : UInt8) : okAt i cb = true ↔ ((97 ≤ cb.toNat ∧ cb.toNat ≤ 122) ∨ (65 ≤ cb.toNat ∧ cb.toNat ≤ 90) ∨ cb.toNat = 95 ∨ (i ≠ 0 ∧ 48 ≤ cb.toNat ∧ cb.toNat ≤ 57)) := by
  have h95 : (cb == 95) = decide (cb.toNat = 95) := by
    by_cases h : cb = 95
    · subst h; rfl
    · have : ¬ cb.toNat = 95 := fun e => h (UInt8.toNat_inj.1 e)
      simp [h, this]
  unfold okAt isLt isDg
  rw [h95]
  simp only [Bool.or_eq_true, Bool.and_eq_true, decide_eq_true_eq, ne_eq]
  omega
set_option maxRecDepth 10000 in
set_option maxHeartbeats 1000000 in
theorem rname_any (s : ByteArray) (hs : s.size ≤ 9223372036854775807) (w : World) : Calls Tryd.prog 50 #[.string s] w fun e w' => e = .returned (.bool (nameV s.data.toList)) ∧ Below w.heap.size w w' := by
  by_cases h0 : s.size = 0
  · have hv : nameV s.data.toList = false := by
      have : s.data.toList = [] := List.length_eq_zero_iff.1 (by rw [ba_len]; exact h0)
      rw [this]; rfl
    rw [hv]
    have hd : decide ((s.size : Int) < 1) = true := by simp; omega
    clear h0 hv
    go_enter Tryd.func50, Tryd.ntmps50
    go_wp2
    go_ret
    exact ⟨rfl, Below.refl _ _⟩
  · have hd1 : decide ((s.size : Int) < 1) = false := by simp; omega
    by_cases h16 : 16 < s.size
    · have hd2 : decide ((16 : Int) < (s.size : Int)) = true := by simp; omega
      have hv : nameV s.data.toList = false := by
        rw [nameV_of s (by omega)]
        have : decide (s.size ≤ 16) = false := by simp; omega
        rw [this]
        simp
      rw [hv]
      clear h0 hv h16
      go_enter Tryd.func50, Tryd.ntmps50
      go_wp2
      go_ret
      exact ⟨rfl, Below.refl _ _⟩
    · have hd2 : decide ((16 : Int) < (s.size : Int)) = false := by simp; omega
      have HT : Hid ((∀ i (hi : i < s.size), okAt i s[i] = true) → nameV s.data.toList = true) := fun h => name_true s (by omega) (by omega) h
      have HF : Hid (∀ i (hi : i < s.size), okAt i s[i] = false → nameV s.data.toList = false) := fun i hi h => name_false s i hi h
      generalize nameV s.data.toList = R at *
      have h16' : s.size ≤ 16 := by omega
      clear h0 h16
      go_enter Tryd.func50, Tryd.ntmps50
      go_wp2_with fail
      go_loopw [3] (fun u wr => ∃ i : Nat, i ≤ s.size ∧ u = .int .i64 (i : Int) ∧ (∀ j (hj : j < s.size), j < i → okAt j s[j] = true) ∧ Below w.heap.size w wr) (fun u _ => s.size - (intOf u).toNat)
      case atStart => exact ⟨0, by omega, rfl, fun j _ h => by omega, Below.refl _ _⟩
      case round =>
        obtain ⟨i, hi, rfl, hok, hbel⟩ := hrel
        have HO : Hid (∀ j (hj : j < s.size), j < i → okAt j s[j] = true) := hok
        have HB : Hid (Below w.heap.size w wr) := hbel
        clear hok hbel
        by_cases hlt : i < s.size
        · have hdd : decide ((i : Int) < (s.size : Int)) = true := by simp; omega
          have hix : ∀ h : i < s.size, s[i]'h = s[i]'hlt := fun _ => rfl
          have H1 : Hid (okAt i (s[i]'hlt) = true → ∀ j (hj : j < s.size), j < i + 1 → okAt j s[j] = true) := fun h j hj hji => by
            rcases Nat.lt_or_ge j i with q | q
            · exact HO.out j hj q
            · obtain rfl : j = i := by omega
              exact h
          have H2 : Hid (okAt i (s[i]'hlt) = false → R = false) := fun h => HF.out i hlt h
          generalize hcb : s[i]'hlt = cb at *
          have H3 : Hid (okAt i cb = true ↔ ((97 ≤ cb.toNat ∧ cb.toNat ≤ 122) ∨ (65 ≤ cb.toNat ∧ cb.toNat ≤ 90) ∨ cb.toNat = 95 ∨ (i ≠ 0 ∧ 48 ≤ cb.toNat ∧ cb.toNat ≤ 57))) := okAt_iff i cb
          clear HT HF HO
          go_wp2_with fail
          all_goals try simp only [Bool.not_eq_false', Bool.not_eq_true', decide_eq_true_eq, decide_eq_false_iff_not, beq_iff_eq, beq_eq_false_iff_ne] at *
          all_goals first
            | (refine ⟨⟨i + 1, by omega, by first | rfl | (simp; omega), H1.out (H3.out.2 (by omega)), HB.out⟩, by simp only [intOf]; omega⟩)
            | (go_ret
               refine ⟨?_, HB.out⟩
               rw [H2.out (by
                 cases hh : okAt i cb with
                 | false => rfl
                 | true => exact absurd (H3.out.1 hh) (by omega))]
               rfl)
          done
        · have hdd : decide ((i : Int) < (s.size : Int)) = false := by simp; omega
          have HR : Hid (R = true) := HT.out (fun j hj => HO.out j hj (by omega))
          go_wp2_with fail
          go_ret
          exact ⟨by rw [HR.out]; rfl, HB.out⟩
end Go.Proofs.YtbjopdmchmekpaaDoor
/- The document's Code. -/
namespace Go.Proofs.YtbjopdmchmekpaaDoor
open Go.ChangeShapes Go.WideShapes Go.ChangeAt Go.RowKit

def cdZ : Option Nat → Int
  | some c => (c : Int)
  | none => -1
set_option maxRecDepth 100000 in
theorem rcode_any (s : ByteArray) (w : World) : Calls Tryd.prog 31 #[.string s] w fun e w' => e = .returned (.int .i64 (cdZ (wordI s.data.toList))) ∧ Below w.heap.size w w' := by
  have HWD : Hid (∀ w', Calls Tryd.prog 51 #[] w' fun e w'' => ∃ v, e = .returned v ∧ w''.ownsRow w'.heap.size 9 1 v 41 wordsC ∧ Below w'.heap.size w' w'') := words_any
  go_enter Tryd.func31, Tryd.ntmps31
  go_wp2_with fail
  refine (HWD.out _).mono ?_
  rintro e w4 ⟨vw, rfl, how, hb4⟩
  obtain ⟨gw, cw, rfl⟩ := own_at how (by decide)
  have HOW : Hid (∀ w', Below w4.heap.size w4 w' → ∀ c, c < 41 → w'.cell? ⟨gw, c, none⟩ = some (.string (S (wordL c)))) := fun w' hb c hc => by
    have := own_cells (own_keep how (Keep.of_below hb []) (by simp)) c (.string (S (wordL c))) (by
      have hl : c < wordT.length := by show c < 41; omega
      simp [wordsC, wordL, List.getD, hl])
    exact this
  have HB4 : Hid (Below w.heap.size w w4) := hb4
  clear how hb4 HWD
  go_wp2_with fail
  go_loopw [4] (fun u wr => ∃ i : Nat, i ≤ 41 ∧ u = .int .i64 (i : Int) ∧ (∀ j, j < i → wordL j ≠ s.data.toList) ∧ Below w4.heap.size w4 wr) (fun u _ => 41 - (intOf u).toNat)
  case atStart => exact ⟨0, by omega, rfl, fun j hj => by omega, Below.refl _ _⟩
  case round =>
    obtain ⟨i, hi, rfl, hno, hwe⟩ := hrel
    have HN : Hid (∀ j, j < i → wordL j ≠ s.data.toList) := hno
    have HW : Hid (Below w4.heap.size w4 wr) := hwe
    clear hno hwe
    by_cases hlt : i < 41
    · have hd : decide ((i : Int) < 41) = true := by simp; omega
      have hcl : wr.cell? ⟨gw, i, none⟩ = some (.string (S (wordL i))) := HOW.out wr HW.out i hlt
      have HJ : Hid (i < 41) := hlt
      have hw1 : wrap64 ((i : Int) + 1) = (i : Int) + 1 := by unfold wrap64; omega
      obtain ⟨R, hR⟩ : ∃ R, S (wordL i) = R := ⟨_, rfl⟩
      rw [hR] at hcl
      by_cases he : wordL i = s.data.toList
      · have hS : R = s := by rw [← hR]; exact (S_eq s _).2 he
        have HV : Hid (wordI s.data.toList = some i) := wordI_at hlt he HN.out
        subst hS
        clear he hR
        go_wp2
        go_ret
        rw [HV.out]
        exact ⟨rfl, below_then HB4.out HW.out⟩
      · have hS : ¬ R = s := fun e => he ((S_eq s _).1 (hR.trans e))
        have HN2 : Hid (∀ j, j < i + 1 → wordL j ≠ s.data.toList) := fun j hj => by
          rcases Nat.lt_or_eq_of_le (Nat.lt_succ_iff.1 hj) with h3 | h3
          · exact HN.out j h3
          · rw [h3]; exact he
        have hSb : (R.toList == s.toList) = false := str_ne hS
        clear he hR hS
        go_wp2
        go_roundw
        case rel => exact ⟨i + 1, HJ.out, by go_num, HN2.out, HW.out⟩
        case measure => exact meas_i HJ.out
    · obtain rfl : i = 41 := by omega
      have HV : Hid (wordI s.data.toList = none) := wordI_no HN.out
      go_wp2
      go_ret
      rw [HV.out]
      exact ⟨rfl, below_then HB4.out HW.out⟩
end Go.Proofs.YtbjopdmchmekpaaDoor
/- The document's reader as it lies; its label. -/
namespace Go.Proofs.YtbjopdmchmekpaaDoor
open Go.ChangeShapes Go.WideShapes Go.ChangeAt Go.RowKit
attribute [local go_sem ↓] Go.wp_at_zero Go.wp_at_succ

def tkC (l : List Tok) : List Value := l.flatMap fun x => [.string (S x.1), .int .i64 (x.2 : Int)]
theorem tkC_len (l : List Tok) : (tkC l).length = l.length * 2 := by
  induction l with
  | nil => rfl
  | cons x l ih => simp only [tkC, List.flatMap_cons, List.length_append, List.length_cons] at ih ⊢; simp only [List.length_nil]; omega
theorem tkC_snoc (l : List Tok) (x : Tok) : tkC (l ++ [x]) = tkC l ++ [.string (S x.1), .int .i64 (x.2 : Int)] := by simp [tkC]
theorem tkC_get (l : List Tok) (i : Nat) (hi : i < l.length) : (tkC l)[i * 2]? = some (.string (S (l.getD i ([], 0)).1)) ∧ (tkC l)[i * 2 + 1]? = some (.int .i64 ((l.getD i ([], 0)).2 : Int)) := by
  induction l generalizing i with
  | nil => simp at hi
  | cons x l ih =>
    cases i with
    | zero => simp [tkC]
    | succ i =>
      have := ih i (by simpa using hi)
      have e1 : (i + 1) * 2 = i * 2 + 2 := by omega
      have e2 : i * 2 + 2 + 1 = i * 2 + 1 + 2 := by omega
      rw [e1, e2]
      simpa [tkC] using this
def intC (l : List Nat) : List Value := l.map fun n : Nat => .int .i64 (n : Int)
theorem intC_snoc (l : List Nat) (n : Nat) : intC (l ++ [n]) = intC l ++ [.int .i64 (n : Int)] := by simp [intC]
/-- The document's reader as it lies. -/
structure AmV (w : World) (base X : Nat) (d : DS) (vo va vn vl : Value) : Prop where
  blk : w.heap[X]? = some (.cells #[vo, va, vn, .int .i64 (d.size : Int), vl] 45 (0, 0))
  ro : w.ownsRow base 53 2 vo d.ops.length (opsC d.ops)
  ra : w.ownsRow base 3 1 va d.ats.length (intC d.ats)
  rn : w.ownsRow base 55 2 vn d.nms.length (tkC d.nms)
  rl : w.ownsRow base 55 2 vl d.labs.length (tkC d.labs)
  ne : ∀ b, vn.ownBlock = some b → vl.ownBlock ≠ some b
def AmAt (w : World) (base X : Nat) (d : DS) : Prop := ∃ vo va vn vl, AmV w base X d vo va vn vl
theorem AmV.later {w w' : World} {base X : Nat} {d : DS} {vo va vn vl : Value} (h : AmV w base X d vo va vn vl) (hb : Below w.heap.size w w') : AmV w' base X d vo va vn vl :=
  ⟨by rw [hb.block _ (heap_lt h.blk)]; exact h.blk, own_keep h.ro (Keep.of_below hb []) (by simp), own_keep h.ra (Keep.of_below hb []) (by simp), own_keep h.rn (Keep.of_below hb []) (by simp), own_keep h.rl (Keep.of_below hb []) (by simp), h.ne⟩
theorem lab_at {L : List Tok} {n : List UInt8} {i : Nat} (hi : i < L.length) (h : (L.getD i ([], 0)).1 = n) (hno : ∀ j, j < i → (L.getD j ([], 0)).1 ≠ n) : lab L n = some (L.getD i ([], 0)).2 := by
  induction L generalizing i with
  | nil => simp at hi
  | cons x L ih =>
    cases i with
    | zero =>
      simp only [List.getD_cons_zero] at h ⊢
      simp [lab, h]
    | succ i =>
      have h0 : x.1 ≠ n := by have := hno 0 (by omega); simpa using this
      have h1 := ih (i := i) (by simpa using hi) (by simpa using h) (fun j hj => by have := hno (j + 1) (by omega); simpa using this)
      simp only [List.getD_cons_succ]
      rw [← h1]
      simp [lab, h0]
theorem lab_no {L : List Tok} {n : List UInt8} (hno : ∀ j, j < L.length → (L.getD j ([], 0)).1 ≠ n) : lab L n = none := by
  simp only [lab, Option.map_eq_none_iff, List.find?_eq_none]
  intro x hx
  obtain ⟨i, hi, rfl⟩ := List.mem_iff_getElem.1 hx
  have := hno i hi
  simpa [List.getD, hi] using this
theorem lb_meas {n i : Nat} (h : i < n) : n - (i + 1) < n - i := by omega
theorem lb_wrap {n i : Nat} (hn : n ≤ 1000000000) (h : i < n) : wrap64 ((i : Int) + 1) = ((i + 1 : Nat) : Int) := by unfold wrap64; omega
theorem ad_own (g i : Nat) : (⟨g, 0, none⟩ : Addr).add i = ⟨g, i, none⟩ := by unfold Addr.add; split <;> simp_all
set_option maxRecDepth 100000 in
theorem rlabel_any {w : World} {base X : Nat} {d : DS} (h : AmAt w base X d) (hl : d.labs.length ≤ 1000000000) (n : List UInt8) :
    Calls Tryd.prog 17 #[.pointer (some ⟨X, 0, none⟩), .string (S n)] w fun e w' => e = .returned (.int .i64 (cdZ (lab d.labs n))) ∧ Below w.heap.size w w' := by
  obtain ⟨vo, va, vn, vl, h⟩ := h
  have c4 : ∀ w', Below w.heap.size w w' → w'.cell? ⟨X, 4, none⟩ = some vl := fun w' hb => by rw [cell_at (h.later hb).blk]; rfl
  have HC4 : Hid (∀ w', Below w.heap.size w w' → w'.cell? ⟨X, 4, none⟩ = some vl) := c4
  have hX := heap_lt h.blk
  obtain ⟨la, lcap, hvl⟩ := own_slice h.rl
  have HRW : Hid (∀ i, i < d.labs.length → ∃ g, la = some ⟨g, 0, none⟩ ∧ g < w.heap.size ∧ ∀ w', Below w.heap.size w w' → w'.cell? ⟨g, i * 2, none⟩ = some (.string (S (d.labs.getD i ([], 0)).1)) ∧ w'.cell? ⟨g, i * 2 + 1, none⟩ = some (.int .i64 ((d.labs.getD i ([], 0)).2 : Int))) := fun i hi => by
    obtain ⟨g, hg⟩ : ∃ g, la = some ⟨g, 0, none⟩ := by
      rcases h.rl.2 with ⟨_, h0⟩ | ⟨g, cap, cur, e, _⟩
      · omega
      · rw [hvl] at e
        injection e with e
        exact ⟨g, e⟩
    subst hg
    refine ⟨g, rfl, (own_block h.rl g (by rw [hvl]; rfl)).2, fun w' hb => ?_⟩
    have h1 := (h.later hb).rl
    rw [hvl] at h1
    exact ⟨own_cells h1 _ _ (tkC_get d.labs i hi).1, own_cells h1 _ _ (tkC_get d.labs i hi).2⟩
  subst hvl
  clear h c4
  generalize hL : d.labs = L at *
  clear hL
  generalize hn : L.length = nl at *
  go_enter Tryd.func17, Tryd.ntmps17
  go_wp2_with fail
  go_loopg [5] nl (fun gh iv wr => ∃ i : Nat, gh = nl - i ∧ i ≤ nl ∧ iv = .int .i64 (i : Int) ∧ (∀ j, j < i → (L.getD j ([], 0)).1 ≠ n) ∧ Below w.heap.size w wr)
  case atStart => exact ⟨0, by omega, by omega, rfl, fun j hj => by omega, Below.refl _ _⟩
  case round =>
    obtain ⟨i, rfl, hi, rfl, hno, hbl⟩ := hrel
    have HN : Hid (∀ j, j < i → (L.getD j ([], 0)).1 ≠ n) := hno
    have HB : Hid (Below w.heap.size w wr) := hbl
    have c4 := HC4.out wr hbl
    have hXr : X < wr.heap.size := Nat.lt_of_lt_of_le hX hbl.size
    clear hno hbl
    by_cases hlt : i < nl
    · have hd : decide ((i : Int) < (nl : Int)) = true := by simp; omega
      obtain ⟨g, rfl, hg, hcs⟩ := HRW.out i hlt
      obtain ⟨z0, z1⟩ := hcs wr HB.out
      have ea := ad_own g (i * 2)
      have HIW : Hid (wrap64 ((i : Int) + 1) = ((i + 1 : Nat) : Int)) := lb_wrap hl hlt
      have HLT : Hid (i < L.length) := by rw [hn]; exact hlt
      obtain ⟨R, hR⟩ : ∃ R, S (L.getD i ([], 0)).1 = R := ⟨_, rfl⟩
      rw [hR] at z0
      clear hcs
      by_cases he : (L.getD i ([], 0)).1 = n
      · have hS : R = S n := by rw [← hR, he]
        have HV : Hid (lab L n = some (L.getD i ([], 0)).2) := lab_at HLT.out he HN.out
        subst hS
        generalize S n = sn at *
        generalize (L.getD i ([], 0)).2 = q at *
        clear he hR
        go_wp2_with fail
        go_ret
        rw [HV.out]
        exact ⟨rfl, HB.out⟩
      · have hS : ¬ R = S n := fun e => he (by have := hR.trans e; have h2 := (S_eq (S n) _).1 this; simpa [S] using h2)
        have HN2 : Hid (∀ j, j < i + 1 → (L.getD j ([], 0)).1 ≠ n) := fun j hj => by
          rcases Nat.lt_or_eq_of_le (Nat.lt_succ_iff.1 hj) with h3 | h3
          · exact HN.out j h3
          · rw [h3]; exact he
        have hSb : (R.toList == (S n).toList) = false := str_ne hS
        generalize S n = sn at *
        clear he hR hS
        go_wp2_with fail
        go_roundg (nl - (i + 1))
        case rel => exact ⟨i + 1, rfl, hlt, by first | rw [HIW.out] | go_num, HN2.out, HB.out⟩
        case measure => exact lb_meas hlt
    · have hd : decide ((i : Int) < (nl : Int)) = false := by simp; omega
      have HV : Hid (lab L n = none) := lab_no (fun j hj => HN.out j (by omega))
      go_wp2_with fail
      go_ret
      rw [HV.out]
      exact ⟨rfl, HB.out⟩
/-- All below a block stays but one. -/
structure Fz (B X : Nat) (w w' : World) : Prop where
  os : w'.os = w.os
  tape : w'.tape = w.tape
  output : w'.output = w.output
  size : w.heap.size ≤ w'.heap.size
  block : ∀ b, b < B → b ≠ X → w'.heap[b]? = w.heap[b]?
theorem Fz.of {B X : Nat} {w w' : World} (h : Below w.heap.size w w') (hB : B ≤ w.heap.size) : Fz B X w w' := ⟨h.os, h.tape, h.output, h.size, fun b hb _ => h.block b (by omega)⟩
theorem Fz.refl (B X : Nat) (w : World) : Fz B X w w := ⟨rfl, rfl, rfl, Nat.le_refl _, fun _ _ _ => rfl⟩
theorem Fz.trans {B X : Nat} {w w' w'' : World} (h : Fz B X w w') (h' : Fz B X w' w'') : Fz B X w w'' := ⟨h'.os.trans h.os, h'.tape.trans h.tape, h'.output.trans h.output, Nat.le_trans h.size h'.size, fun b hb hx => (h'.block b hb hx).trans (h.block b hb hx)⟩
theorem Fz.below {B X : Nat} {w0 w w' : World} (h : Fz B X w w') (h0 : Below w0.heap.size w0 w) (hB : w0.heap.size ≤ B) (hX : w0.heap.size ≤ X) : Below w0.heap.size w0 w' := by
  have hk : Keep (List.range' w0.heap.size (w.heap.size + B + X)) w w' := ⟨h.os, h.tape, h.output, h.size, fun b hb hn => h.block b (by simp only [List.mem_range'_1] at hn; omega) (by simp only [List.mem_range'_1] at hn; omega)⟩
  exact h0.trans (hk.below h0.size (fun b hb => by simp only [List.mem_range'_1] at hb; omega))
/-- Tokens behind a slice. -/
def TkL (B X : Nat) (w : World) (v : Value) (l : List Tok) : Prop := ∃ a cap, v = .slice a l.length cap ∧ l.length ≤ 20000000 ∧ l.length ≤ cap ∧ cap ≤ 9223372036854775807 ∧ (∀ x ∈ l, x.1.length ≤ 20000000 ∧ x.2 ≤ 20000000 ∧ x.1 ≠ []) ∧
  (l.length = 0 ∨ ∃ g o, a = some ⟨g, o, none⟩ ∧ (g < B ∧ g ≠ X ∧ g < w.heap.size) ∧ ∀ i, i < l.length → w.cell? ⟨g, o + i * 2, none⟩ = some (.string (S (l.getD i ([], 0)).1)) ∧ w.cell? ⟨g, o + i * 2 + 1, none⟩ = some (.int .i64 ((l.getD i ([], 0)).2 : Int)))
theorem fz_cell {B X : Nat} {w w' : World} (h : Fz B X w w') {g o : Nat} {v : Value} (hB : g < B) (hX : g ≠ X) (hc : w.cell? ⟨g, o, none⟩ = some v) : w'.cell? ⟨g, o, none⟩ = some v := by
  rw [← hc]
  unfold World.cell?
  rw [show w'.heap[(⟨g, o, none⟩ : Addr).block]? = w.heap[(⟨g, o, none⟩ : Addr).block]? from h.block g hB hX]
theorem TkL.fz {B X : Nat} {w w' : World} {v : Value} {l : List Tok} (h : TkL B X w v l) (hb : Fz B X w w') : TkL B X w' v l := by
  obtain ⟨a, cap, h1, h2, h3, h4, h5, h6⟩ := h
  refine ⟨a, cap, h1, h2, h3, h4, h5, ?_⟩
  rcases h6 with h0 | ⟨g, o, ha, ⟨hg, hx, hs⟩, hc⟩
  · exact Or.inl h0
  · exact Or.inr ⟨g, o, ha, ⟨hg, hx, Nat.lt_of_lt_of_le hs hb.size⟩, fun i hi => ⟨fz_cell hb hg hx (hc i hi).1, fz_cell hb hg hx (hc i hi).2⟩⟩
theorem tk_two {B X : Nat} {w : World} {v : Value} {x y : Tok} {r : List Tok} (h : TkL B X w v (x :: y :: r)) : ∃ g o cap, v = .slice (some ⟨g, o, none⟩) (r.length + 2) cap ∧ g < w.heap.size ∧ (w.cell? ⟨g, o, none⟩ = some (.string (S x.1)) ∧ w.cell? ⟨g, o + 1, none⟩ = some (.int .i64 (x.2 : Int))) ∧ w.cell? ⟨g, o + 2, none⟩ = some (.string (S y.1)) ∧ w.cell? ⟨g, o + 3, none⟩ = some (.int .i64 (y.2 : Int)) := by
  obtain ⟨a, cap, h1, h2, h3, h4, h5, h6⟩ := h
  obtain ⟨g, o, ha, ⟨_, _, hg⟩, hc⟩ := h6.resolve_left (by simp)
  exact ⟨g, o, cap, by rw [h1, ha]; rfl, hg, hc 0 (by simp), hc 1 (by simp)⟩
theorem tk_one {B X : Nat} {w : World} {v : Value} {x : Tok} {r : List Tok} (h : TkL B X w v (x :: r)) : ∃ g o cap, v = .slice (some ⟨g, o, none⟩) (r.length + 1) cap ∧ g < w.heap.size ∧ w.cell? ⟨g, o, none⟩ = some (.string (S x.1)) ∧ w.cell? ⟨g, o + 1, none⟩ = some (.int .i64 (x.2 : Int)) := by
  obtain ⟨a, cap, h1, h2, h3, h4, h5, h6⟩ := h
  obtain ⟨g, o, ha, ⟨_, _, hg⟩, hc⟩ := h6.resolve_left (by simp)
  exact ⟨g, o, cap, by rw [h1, ha]; rfl, hg, hc 0 (by simp)⟩
/-- All but the first. -/
theorem TkL.tail {B X : Nat} {w : World} {g o n cap : Nat} {x : Tok} {r : List Tok} (h : TkL B X w (.slice (some ⟨g, o, none⟩) n cap) (x :: r)) : n = r.length + 1 ∧ n ≤ cap ∧ TkL B X w (if cap = 1 then .slice (some ⟨g, o, none⟩) 0 0 else .slice (some ⟨g, o + 2, none⟩) (n - 1) (cap - 1)) r := by
  obtain ⟨a, cap', h1, h2, h3, h4, h5, h6⟩ := h
  injection h1 with e1 e2 e3
  subst e1 e2 e3
  simp only [List.length_cons] at h2 h3
  refine ⟨rfl, h3, ?_⟩
  obtain ⟨g', o', ha, hg, hc⟩ := h6.resolve_left (by simp)
  injection ha with ha
  injection ha with e1 e2
  subst e1 e2
  by_cases hc1 : cap = 1
  · rw [if_pos hc1]
    have h0 : r.length = 0 := by omega
    exact ⟨_, 0, by rw [h0], by omega, by omega, by omega, fun t ht => h5 t (by simp [ht]), Or.inl h0⟩
  · rw [if_neg hc1]
    refine ⟨_, cap - 1, rfl, by omega, by omega, by omega, fun t ht => h5 t (by simp [ht]), Or.inr ⟨g, o + 2, rfl, hg, fun i hi => ?_⟩⟩
    have := hc (i + 1) (by simpa using hi)
    simp only [List.getD_cons_succ] at this
    have e1 : o + (i + 1) * 2 = o + 2 + i * 2 := by omega
    rw [e1] at this
    exact this
end Go.Proofs.YtbjopdmchmekpaaDoor
/- The document's labels. -/
namespace Go.Proofs.YtbjopdmchmekpaaDoor
open Go.ChangeShapes Go.WideShapes Go.ChangeAt Go.RowKit
attribute [local go_sem ↓] Go.wp_at_zero Go.wp_at_succ

theorem info_tok : (Tryd.prog.info? 55).map (fun i => (i.zero, i.size, i.bytes)) = some (some (.agg #[.string ⟨#[]⟩, .int .i64 0]), 2, 24) := by kernel_rfl
theorem AmV.blocks {w : World} {B X : Nat} {d : DS} {vo va vn vl : Value} (h : AmV w B X d vo va vn vl) : X < w.heap.size ∧ (∀ b, vl.ownBlock = some b → b ≠ X) := ⟨heap_lt h.blk, fun b hb e => own_ne h.rl h.blk (by decide) (by rw [hb, e])⟩
/-- A label more. -/
theorem AmV.lab {w w1 : World} {B X g cap : Nat} {o : Obj} {d : DS} {vo va vn vl : Value} {n : List UInt8} (h : AmV w B X d vo va vn vl) (hB : B ≤ w.heap.size)
    (hown : w1.ownsRow B 55 2 (.slice (some ⟨g, 0, none⟩) (d.labs.length + 1) cap) (d.labs.length + 1) (tkC d.labs ++ [.string (S n), .int .i64 (d.size : Int)])) (hg : ((w.alloc o).drewN 1).grownBy w1 vl.ownBlock) (hat : vl.ownBlock = some g ∨ g = w.heap.size + 1) :
    AmV (w1.setCell ⟨X, 4, none⟩ (.slice (some ⟨g, 0, none⟩) (d.labs.length + 1) cap)) B X { d with labs := d.labs ++ [(n, d.size)] } vo va vn (.slice (some ⟨g, 0, none⟩) (d.labs.length + 1) cap) ∧ Fz B X w (w1.setCell ⟨X, 4, none⟩ (.slice (some ⟨g, 0, none⟩) (d.labs.length + 1) cap)) := by
  obtain ⟨hX, hlX⟩ := h.blocks
  have hr1 : w1.heap[X]? = some (.cells #[vo, va, vn, .int .i64 (d.size : Int), vl] 45 (0, 0)) := by
    rw [hg.block _ (by show X < (w.alloc o).heap.size; simp; omega) (fun e => hlX X e.symm rfl)]
    show (w.alloc o).heap[X]? = _
    rw [Below.heap_alloc _ _ _ hX]
    exact h.blk
  have hgX : g ≠ X := fun e => own_ne hown hr1 (by decide) (by rw [e]; rfl)
  have hlB : ∀ b, vl.ownBlock = some b → B ≤ b := fun b hb => (own_block h.rl b hb).1
  have hk : Keep (match vl.ownBlock with | some b => [b] | none => []) w w1 := (((Keep.refl _ _).alloc o).drewN 1).grown hg (fun b hb => by rw [hb]; simp)
  have hmem : ∀ b, b ∈ (match vl.ownBlock with | some b => [b] | none => []) → vl.ownBlock = some b := fun b hb => by
    cases hv : vl.ownBlock with
    | none => rw [hv] at hb; simp at hb
    | some c => rw [hv] at hb; simp at hb; rw [hb]
  have hk2 : Keep [X] w1 (w1.setCell ⟨X, 4, none⟩ (.slice (some ⟨g, 0, none⟩) (d.labs.length + 1) cap)) := (Keep.refl _ _).setCell _ _ (Or.inl (by simp))
  have hnl : ∀ (t : TypeId) (s n : Nat) (v : Value) (xs : List Value), w.ownsRow B t s v n xs → (∀ b, v.ownBlock = some b → vl.ownBlock ≠ some b ∧ b ≠ X) → (w1.setCell ⟨X, 4, none⟩ (.slice (some ⟨g, 0, none⟩) (d.labs.length + 1) cap)).ownsRow B t s v n xs := fun t s n v xs ho hv =>
    own_keep (own_keep ho hk (fun b hb hc => (hv b hb).1 (hmem b hc))) hk2 (fun b hb => by simpa using (hv b hb).2)
  have hneo : ∀ b, vo.ownBlock = some b → vl.ownBlock ≠ some b ∧ b ≠ X := fun b hb => ⟨fun e => own_apart h.ro h.rl (by decide) b hb e, fun e => own_ne h.ro h.blk (by decide) (by rw [hb, e])⟩
  have hnea : ∀ b, va.ownBlock = some b → vl.ownBlock ≠ some b ∧ b ≠ X := fun b hb => ⟨fun e => own_apart h.ra h.rl (by decide) b hb e, fun e => own_ne h.ra h.blk (by decide) (by rw [hb, e])⟩
  have hnen : ∀ b, vn.ownBlock = some b → vl.ownBlock ≠ some b ∧ b ≠ X := fun b hb => ⟨h.ne b hb, fun e => own_ne h.rn h.blk (by decide) (by rw [hb, e])⟩
  refine ⟨⟨by rw [heap_set hr1]; rfl, hnl _ _ _ _ _ h.ro hneo, hnl _ _ _ _ _ h.ra hnea, hnl _ _ _ _ _ h.rn hnen, ?_, fun b hb e => ?_⟩, ?_⟩
  · rw [List.length_append, tkC_snoc]
    exact own_keep hown hk2 (fun b hb => by simp [Value.ownBlock] at hb; subst hb; simpa using hgX)
  · simp [Value.ownBlock] at e
    subst e
    rcases hat with h1 | h1
    · exact (hnen g hb).1 h1
    · have := (own_block h.rn g hb).2
      omega
  · refine ⟨hk2.os.trans hk.os, hk2.tape.trans hk.tape, hk2.output.trans hk.output, Nat.le_trans hk.size hk2.size, fun b hb hx => ?_⟩
    rw [heap_set_other _ _ (Ne.symm hx), hk.block b (by omega) (fun hc => by have := hlB b (hmem b hc); omega)]
theorem am_below {w w' : World} {B X : Nat} {d : DS} (h : AmAt w B X d) (hb : Below w.heap.size w w') : AmAt w' B X d := by
  obtain ⟨vo, va, vn, vl, h⟩ := h
  exact ⟨vo, va, vn, vl, h.later hb⟩
def labelsV (d : DS) : List Tok → Except (Int × Nat) (DS × List Tok)
  | [] => .ok (d, [])
  | (x, p) :: r => if x.getLast? = some 58 then
      if nameV x.dropLast then (if lab d.labs x.dropLast = none then .ok ({ d with labs := d.labs ++ [(x.dropLast, d.size)] }, r) else .error (11, p)) else .error (9, p)
    else .ok (d, (x, p) :: r)
/-- What labels answers. -/
def LabA (B X : Nat) (w : World) (Y : Except (Int × Nat) (DS × List Tok)) (e : Ending) (w' : World) : Prop := (∃ v', match Y with
  | .error (e0, p) => e = .returned (.tuple #[v', .int .i64 e0, .int .i64 (p : Int)])
  | .ok (d', l') => e = .returned (.tuple #[v', .int .i64 0, .int .i64 0]) ∧ AmAt w' B X d' ∧ TkL B X w' v' l') ∧ Fz B X w w'
theorem last_byte {x : List UInt8} {k : Nat} (hk : x.length = k + 1) (h : k < (S x).size) : x.getLast? = some ((S x)[k]) := by
  rw [List.getLast?_eq_getElem?, hk]
  show x[k]? = some ((S x).data[k])
  simp [S]
theorem drop_last (x : List UInt8) (k : Nat) (hk : x.length = k + 1) : (S x).extract 0 k = S x.dropLast := by
  rw [List.dropLast_eq_take, hk]
  show ByteArray.mk _ = ByteArray.mk _
  congr 1
  simp [S]
set_option maxRecDepth 100000 in
theorem rlabels_any {w : World} {B X : Nat} {d : DS} {v : Value} {l : List Tok} (h : AmAt w B X d) (hv : TkL B X w v l) (hB : B ≤ w.heap.size) (hl : d.labs.length ≤ 30000000) :
    Calls Tryd.prog 30 #[.pointer (some ⟨X, 0, none⟩), v] w (LabA B X w (labelsV d l)) := by
  match l, hv with
  | [], hv =>
    obtain ⟨a, cap, h1, _⟩ := id hv
    have HE : Hid (AmAt w B X d ∧ TkL B X w v []) := ⟨h, hv⟩
    subst h1
    clear hv h
    go_enter Tryd.func30, Tryd.ntmps30
    go_wp2_with fail
    go_quiet (fail)
    go_wp2_with fail
    go_ret3
    exact ⟨⟨_, rfl, am_below HE.out.1 (below_drawn (Below.refl _ _) _), HE.out.2.fz (Fz.of (below_drawn (Below.refl _ _) _) hB)⟩, Fz.of (below_drawn (Below.refl _ _) _) hB⟩
  | (x, p) :: r, hv =>
    have HV : Hid (TkL B X w v ((x, p) :: r)) := hv
    have hbd : x.length ≤ 20000000 ∧ p ≤ 20000000 ∧ x ≠ [] := by obtain ⟨a, cap, h1, h2, h3, h4, h5, h6⟩ := hv; exact h5 (x, p) (by simp)
    obtain ⟨g, o, cap, rfl, hg, z0, z1⟩ := tk_one hv
    simp only at z0 z1
    obtain ⟨k, hk⟩ : ∃ k, x.length = k + 1 := ⟨x.length - 1, by have : x.length ≠ 0 := fun e => hbd.2.2 (List.eq_nil_of_length_eq_zero e); omega⟩
    have hsz : (S x).size = k + 1 := by rw [S_size, hk]
    have hkl : k < (S x).size := by omega
    have HLB : Hid (x.getLast? = some ((S x)[k])) := last_byte hk hkl
    have hdl := drop_last x k hk
    obtain ⟨N, hN⟩ : ∃ N, S x.dropLast = N := ⟨_, rfl⟩
    rw [hN] at hdl
    have HNM : Hid (∀ w : World, Calls Tryd.prog 50 #[.string N] w fun e w' => e = .returned (.bool (nameV x.dropLast)) ∧ Below w.heap.size w w') := fun w => by
      have := rname_any (S x.dropLast) (by rw [S_size, List.length_dropLast]; omega) w
      rw [show (S x.dropLast).data.toList = x.dropLast by simp [S], hN] at this
      exact this
    have HLA : Hid (∀ w : World, AmAt w B X d → Calls Tryd.prog 17 #[.pointer (some ⟨X, 0, none⟩), .string N] w fun e w' => e = .returned (.int .i64 (cdZ (lab d.labs x.dropLast))) ∧ Below w.heap.size w w') := fun w h => by
      rw [← hN]
      exact rlabel_any h (by omega) _
    have HAM : Hid (AmAt w B X d) := h
    generalize hsx : S x = sx at *
    have hwk : IntKind.i64.wrap (k : Int) = (k : Int) := by rw [IntKind.wrap_i64]; omega
    have hr0 : ((r.length : Int) + 1 == 0) = false := by simp only [beq_eq_false_iff_ne, ne_eq]; omega
    have hkn : k < k + 1 := by omega
    have hix : ∀ w : World, (Instr.index 9 (.string sx) (.int .i64 (k : Int))).run Tryd.prog w = .ok (.int .u8 ((sx[k]).toNat : Int)) w := fun w => by
      rw [run_index_string w 9 sx .i64 (k : Int) Tryd.underlying9, dif_pos ⟨by omega, by omega⟩]
      rfl
    by_cases h58 : sx[k] = 58
    · have hb58 : ((sx[k]).toNat : Int) = 58 := by rw [h58]; rfl
      rw [hb58] at hix
      have hY : labelsV d ((x, p) :: r) = if nameV x.dropLast then (if lab d.labs x.dropLast = none then .ok ({ d with labs := d.labs ++ [(x.dropLast, d.size)] }, r) else .error (11, p)) else .error (9, p) := by
        simp only [labelsV]
        rw [if_pos (by rw [HLB.out, h58])]
      rw [hY]
      clear hv hY h58
      obtain ⟨Y, hYY⟩ : ∃ Y, (if nameV x.dropLast = true then (if lab d.labs x.dropLast = none then (.ok ({ d with labs := d.labs ++ [(x.dropLast, d.size)] }, r) : Except (Int × Nat) (DS × List Tok)) else .error (11, p)) else .error (9, p)) = Y := ⟨_, rfl⟩
      rw [hYY]
      have HY : Hid ((if nameV x.dropLast = true then (if lab d.labs x.dropLast = none then (.ok ({ d with labs := d.labs ++ [(x.dropLast, d.size)] }, r) : Except (Int × Nat) (DS × List Tok)) else .error (11, p)) else .error (9, p)) = Y) := hYY
      clear h hYY
      obtain ⟨hrn, hrc, HTL⟩ := HV.out.tail
      have HTL : Hid (TkL B X w (if cap = 1 then .slice (some ⟨g, o, none⟩) 0 0 else .slice (some ⟨g, o + 2, none⟩) (r.length + 1 - 1) (cap - 1)) r) := HTL
      go_enter Tryd.func30, Tryd.ntmps30
      go_wp2_with fail
      go_quiet (fail)
      obtain ⟨w2, hw2⟩ : ∃ w2, w2 = w.drewN nq := ⟨_, rfl⟩
      have HB2 : Hid (Below w.heap.size w w2) := by rw [Hid, hw2]; exact below_drawn (Below.refl _ _) _
      have y0 := cell_later HB2.out hg z0
      have y1 := cell_later HB2.out hg z1
      have hg2 : g < w2.heap.size := Nat.lt_of_lt_of_le hg HB2.out.size
      rw [← hw2]
      clear hw2
      go_wp2_with fail
      go_quiet (fail)
      obtain ⟨w3, hw3⟩ : ∃ w3, w3 = w2.drewN nq := ⟨_, rfl⟩
      have HB3 : Hid (Below w.heap.size w w3) := by rw [Hid, hw3]; exact below_drawn HB2.out _
      rw [← hw3]
      clear hw3 y0 y1 hg2
      go_wp2_with fail
      refine (HNM.out _).mono ?_
      rintro e w4 ⟨rfl, hb4⟩
      have HB4 : Hid (Below w.heap.size w w4) := below_then HB3.out hb4
      have y0 := cell_later HB4.out hg z0
      have y1 := cell_later HB4.out hg z1
      have hg4 : g < w4.heap.size := Nat.lt_of_lt_of_le hg HB4.out.size
      clear hb4 HB3 HNM z0 z1
      cases hnm : nameV x.dropLast with
      | false =>
        have HYE : Hid (Y = .error (9, p)) := by have := HY.out; rw [hnm] at this; exact this.symm
        clear hnm HY HLA
        go_wp2_with fail
        go_quiet (fail)
        go_wp2_with fail
        go_ret3
        rw [HYE.out]
        exact ⟨⟨_, rfl⟩, Fz.of (below_drawn HB4.out _) hB⟩
      | true =>
        have HY2 : Hid ((if lab d.labs x.dropLast = none then (.ok ({ d with labs := d.labs ++ [(x.dropLast, d.size)] }, r) : Except (Int × Nat) (DS × List Tok)) else .error (11, p)) = Y) := by have := HY.out; rw [hnm] at this; exact this
        clear hnm HY
        go_wp2_with fail
        refine (HLA.out _ (am_below HAM.out HB4.out)).mono ?_
        rintro e w5 ⟨rfl, hb5⟩
        have HB5 : Hid (Below w.heap.size w w5) := below_then HB4.out hb5
        have y2 := cell_later hb5 hg4 y0
        have y3 := cell_later hb5 hg4 y1
        have hg5 : g < w5.heap.size := Nat.lt_of_lt_of_le hg4 hb5.size
        clear hb5 HB4 HLA y0 y1 hg4
        cases hlb : lab d.labs x.dropLast with
        | some q =>
          have HYE : Hid (Y = .error (11, p)) := by have := HY2.out; rw [hlb, if_neg (by simp)] at this; exact this.symm
          have hq : decide ((0 : Int) ≤ cdZ (some q)) = true := by simp [cdZ]
          clear hlb HY2
          generalize cdZ (some q) = zq at *
          go_wp2_with fail
          go_quiet (fail)
          go_wp2_with fail
          go_ret3
          rw [HYE.out]
          exact ⟨⟨_, rfl⟩, Fz.of (below_drawn HB5.out _) hB⟩
        | none =>
          have HYE : Hid (Y = .ok ({ d with labs := d.labs ++ [(x.dropLast, d.size)] }, r)) := by have := HY2.out; rw [hlb, if_pos rfl] at this; exact this.symm
          obtain ⟨vo, va, vn, vl, hm5⟩ := am_below HAM.out HB5.out
          have HM5 : Hid (AmV w5 B X d vo va vn vl) := hm5
          have c3 : w5.cell? ⟨X, 3, none⟩ = some (.int .i64 (d.size : Int)) := by rw [cell_at hm5.blk]; rfl
          have c4 : w5.cell? ⟨X, 4, none⟩ = some vl := by rw [cell_at hm5.blk]; rfl
          have f4 : w5.frozen? ⟨X, 4, none⟩ = false := frozen_at hm5.blk 4
          have hX5 : X < w5.heap.size := heap_lt hm5.blk
          have hB5 : B ≤ w5.heap.size := Nat.le_trans hB HB5.out.size
          have hne : vl.ownBlock ≠ some X := fun e => hm5.blocks.2 X e rfl
          obtain ⟨la, lc, hvl⟩ := own_slice hm5.rl
          subst hvl
          have HO : Hid (w5.ownsRow B 55 2 (.slice la d.labs.length lc) d.labs.length (tkC d.labs)) := hm5.rl
          obtain ⟨i0, hi, hz0, hz1, hz2⟩ := info_parts info_tok
          have hcz : cdZ none = -1 := rfl
          have HLAB : Hid (∀ (o : Obj) (w1 : World) (g cap : Nat), w1.ownsRow B 55 2 (.slice (some ⟨g, 0, none⟩) (d.labs.length + 1) cap) (d.labs.length + 1) (tkC d.labs ++ [.string N, .int .i64 (d.size : Int)]) → ((w5.alloc o).drewN 1).grownBy w1 (Value.slice la d.labs.length lc).ownBlock → ((Value.slice la d.labs.length lc).ownBlock = some g ∨ g = w5.heap.size + 1) → AmV (w1.setCell ⟨X, 4, none⟩ (.slice (some ⟨g, 0, none⟩) (d.labs.length + 1) cap)) B X { d with labs := d.labs ++ [(x.dropLast, d.size)] } vo va vn (.slice (some ⟨g, 0, none⟩) (d.labs.length + 1) cap) ∧ Fz B X w5 (w1.setCell ⟨X, 4, none⟩ (.slice (some ⟨g, 0, none⟩) (d.labs.length + 1) cap))) := fun o w1 g cap h1 h2 h3 => HM5.out.lab hB5 (by rw [hN]; exact h1) h2 h3
          generalize d.labs.length = nl at *
          generalize tkC d.labs = xs at *
          generalize (d.size : Int) = ds at *
          clear hlb HY2 hm5
          have q1 : ((nl + 1) + (nl + 1) / 4 + 192) * 24 ≤ 281474976710656 := by omega
          have q2 : nl + 1 ≤ maxLen := by unfold maxLen; omega
          have q3 : B ≤ ((w5.alloc (.cells #[.string N, .int .i64 ds] 55)).drew).heap.size := by simp; omega
          have q4 : ∀ u ∈ [Value.string N, Value.int .i64 ds], u.oneCell' = true := by simp [Value.oneCell']
          have q5 : (Value.cells (.agg #[.string ⟨#[]⟩, .int .i64 0])).size = 2 := rfl
          have q6 : ∀ (w1 : World) (o : Obj), ((w5.alloc o).drew).grownBy w1 (Value.slice la nl lc).ownBlock → w1.cell? ⟨X, 4, none⟩ = some (.slice la nl lc) := fun w1 o hgrow => (by rw [hgrow.cell_far _ (by simp; omega) (Ne.symm hne)]; simp [hX5, World.cell?_alloc_past, c4])
          have q7 : ∀ (w1 : World) (o : Obj), ((w5.alloc o).drew).grownBy w1 (Value.slice la nl lc).ownBlock → w1.frozen? ⟨X, 4, none⟩ = false := fun w1 o hgrow => (by rw [hgrow.frozen_far _ (by simp; omega) (Ne.symm hne)]; rw [show ∀ (a : Addr) (v : World), v.drew.frozen? a = v.frozen? a from fun _ _ => rfl, World.frozen?_alloc_past _ _ _ hX5]; exact f4)
          go_wp2_with fail
          go_region_law
            ((refine step_lies_wide _ (by rfl) _ _ _ (by rfl) B 55 i0 _ 2 24 Tryd.underlying43 hi hz0 hz1 hz2 rfl (by omega) (.slice la nl lc) nl xs (by rfl) ((HO.out.alloc _).drew) ⟨w5.heap.size, 0, none⟩ 1 1 [.string N, .int .i64 ds] (by rfl) (by rfl) (World.news_of_block (cs := #[.string N, .int .i64 ds]) (t := 55) (fr := (0, 0)) (heap_alloc_new w5 _)) q4 (by decide) q2 q1 q3 (w5.heap.size + 1) (by simp) ?_; intro gg cap' w1 hown1 hgrow hat hlt1; have hs1 := q6 w1 _ hgrow; have hs2 := q7 w1 _ hgrow))
          all_goals
            obtain ⟨hma, hmf⟩ := HLAB.out _ w1 gg cap' hown1 hgrow hat
            have HMA : Hid (AmAt (w1.setCell ⟨X, 4, none⟩ (.slice (some ⟨gg, 0, none⟩) (nl + 1) cap')) B X { d with labs := d.labs ++ [(x.dropLast, d.size)] } ∧ Fz B X w (w1.setCell ⟨X, 4, none⟩ (.slice (some ⟨gg, 0, none⟩) (nl + 1) cap'))) := ⟨⟨_, _, _, _, hma⟩, (Fz.of HB5.out hB).trans hmf⟩
            clear hown1 hgrow hat hs1 hs2 hma hmf hlt1 HLAB q1 q2 q3 q4 q5 q6 q7
            have HFI : Hid (∀ v', v' = (if cap = 1 then Value.slice (some ⟨g, o, none⟩) 0 0 else .slice (some ⟨g, o + 2, none⟩) (r.length + 1 - 1) (cap - 1)) → LabA B X w Y (.returned (.tuple #[v', .int .i64 0, .int .i64 0])) (w1.setCell ⟨X, 4, none⟩ (.slice (some ⟨gg, 0, none⟩) (nl + 1) cap'))) := fun v' hv' => by
              rw [HYE.out]
              exact ⟨⟨v', rfl, HMA.out.1, by rw [hv']; exact HTL.out.fz HMA.out.2⟩, HMA.out.2⟩
            by_cases hcp : cap = 1
            · have hr1 : r.length = 0 := by omega
              rw [hr1] at HFI
              rw [if_pos hcp] at HFI
              rw [hr1]
              subst hcp
              clear HTL HV
              go_wp2_with fail
              go_ret3
              exact HFI.out _ rfl
            · rw [if_neg hcp] at HFI
              have hrc2 : 1 ≤ cap := by omega
              clear HTL HV
              go_wp2_with fail
              go_ret3
              exact HFI.out _ rfl
    · have hb58 : (((sx[k]).toNat : Int) == 58) = false := by
        simp only [beq_eq_false_iff_ne, ne_eq]
        intro e
        exact h58 (UInt8.toNat_inj.1 (by have : (58 : UInt8).toNat = 58 := rfl; omega))
      generalize hnb : ((sx[k]).toNat : Int) = nb at hix hb58
      clear hnb
      have hY : labelsV d ((x, p) :: r) = .ok (d, (x, p) :: r) := by
        simp only [labelsV]
        rw [if_neg (by rw [HLB.out]; simpa using h58)]
      rw [hY]
      clear hv h HNM HLA h58 hY
      go_enter Tryd.func30, Tryd.ntmps30
      go_wp2_with fail
      go_quiet (fail)
      go_wp2_with fail
      go_ret3
      exact ⟨⟨_, rfl, am_below HAM.out (below_drawn (Below.refl _ _) _), HV.out.fz (Fz.of (below_drawn (Below.refl _ _) _) hB)⟩, Fz.of (below_drawn (Below.refl _ _) _) hB⟩
end Go.Proofs.YtbjopdmchmekpaaDoor
