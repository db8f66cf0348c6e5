/- The program's reader as it lies; putLabel. -/
import Derived.Test.YtbjopdmchmekpaaDoorAsJ
import Derived.Test.YtbjopdmchmekpaaDoorAsF
import Derived.Maps.Own
import Derived.Maps.Keyed
namespace Go.Proofs.YtbjopdmchmekpaaDoor
open Go.ChangeShapes Go.WideShapes Go.ChangeAt Go.RowKit Go.WideMaps Go.Maps

def useC (u : Nat × List UInt8 × Nat × Nat) : List Value := [.int .i64 (u.1 : Int), .string (S u.2.1), .int .i64 (u.2.2.1 : Int), .int .i64 (u.2.2.2 : Int)]
def usesC (l : List (Nat × List UInt8 × Nat × Nat)) : List Value := l.flatMap useC
/-- The map tells of each name its label's place. -/
def LabOk (L : List (List UInt8 × Nat)) (D : DataW Unit) : Prop := Maps.IsMap D ∧ ∀ t : List UInt8, Maps.has D (.string t) = (lab L t).isSome ∧ ∀ k, lab L t = some k → D.atKey (.string t) (.lit (.int .i64 0)) = .lit (.int .i64 (k : Int))
theorem labOk_start : LabOk [] (.map []) := ⟨Maps.isMap_empty, fun t => ⟨rfl, fun k h => by cases h⟩⟩
theorem str_key (n : List UInt8) : WideAt.IsKeyLit (Lit.string n) := trivial
theorem labOk_put {L : List (List UInt8 × Nat)} {D : DataW Unit} (h : LabOk L D) (n : List UInt8) (k : Nat) (hn : lab L n = none) : LabOk (L ++ [(n, k)]) (D.put (.string n) (.lit (.int .i64 (k : Int)))) := by
  refine ⟨h.1.put _ _, fun t => ?_⟩
  rw [lab_app]
  by_cases e : n = t
  · subst e
    rw [hn, Maps.has_put_same h.1 (str_key n), Maps.atKey_put_same h.1 (str_key n)]
    simp
  · have hne : (Lit.string t) ≠ Lit.string n := fun e' => e (by simpa using e'.symm)
    rw [Maps.has_put_other hne, Maps.atKey_put_other hne]
    have hb : (n == t) = false := by simpa using e
    rw [hb]
    simp only [Bool.false_eq_true, if_false, Option.or_none]
    exact h.2 t
/-- The reader lies in a block; all of it is newer than w0. -/
structure RdAt (w0 : World) (Rb : Nat) (st : PS) (w : World) : Prop where
  ex : ∃ vo vu mb n D, w.heap[Rb]? = some (.cells #[vo, .int .i64 (st.size : Int), .map (some mb), vu] 38 (0, 0)) ∧ w.ownsRow w0.heap.size 53 2 vo st.ops.length (opsC st.ops) ∧ w.ownsRow w0.heap.size 77 4 vu st.us.length (usesC st.us) ∧
    w.ownsMap Tryd.prog 9 (plainElem Tryd.prog 3) mb n D ∧ LabOk st.labs D ∧ w0.heap.size ≤ mb ∧ n ≤ st.labs.length
  rb : w0.heap.size ≤ Rb
  bel : Below w0.heap.size w0 w
/-- A block of a line changes, or new ones are made: the reader stays. -/
theorem RdAt.keep {w0 : World} {Rb : Nat} {st : PS} {w w' : World} {B : Nat} {cs : Array Value} (h : RdAt w0 Rb st w) (hB : w.heap[B]? = some (.cells cs 73 (0, 0))) (hb0 : w0.heap.size ≤ B) (k : Keep [B] w w') : RdAt w0 Rb st w' := by
  obtain ⟨vo, vu, mb, n, D, h1, h2, h3, h4, h5, h6, h7⟩ := h.ex
  have hne : ∀ {e : TypeId} {sz m : Nat} {v : Value} {xs : List Value}, w.ownsRow w0.heap.size e sz v m xs → 73 ≠ e → ∀ b, v.ownBlock = some b → b ∉ [B] := fun ho ht b hb hm => by
    have hbm : b = B := by simpa using hm
    rw [hbm] at hb
    exact own_ne ho hB ht hb
  refine ⟨⟨vo, vu, mb, n, D, ?_, own_keep h2 k (hne h2 (by decide)), own_keep h3 k (hne h3 (by decide)), ?_, h5, h6, h7⟩, h.rb, h.bel.trans (k.below h.bel.size (by simpa using hb0))⟩
  · rw [k.block _ (heap_lt h1) (by
      intro hm
      have hbm : Rb = B := by simpa using hm
      rw [hbm, hB] at h1
      simp at h1)]
    exact h1
  · obtain ⟨es, clock, g1, g2⟩ := h4
    refine ⟨es, clock, ?_, g2⟩
    rw [k.block _ (heap_lt g1) (by
      intro hm
      have hbm : mb = B := by simpa using hm
      rw [hbm, hB] at g1
      cases g1)]
    exact g1
theorem RdAt.later {w0 : World} {Rb : Nat} {st : PS} {w w' : World} (h : RdAt w0 Rb st w) (hb : Below w.heap.size w w') : RdAt w0 Rb st w' := by
  obtain ⟨vo, vu, mb, n, D, h1, h2, h3, h4, h5, h6, h7⟩ := h.ex
  refine ⟨⟨vo, vu, mb, n, D, ?_, own_keep h2 (Keep.of_below hb []) (by simp), own_keep h3 (Keep.of_below hb []) (by simp), ?_, h5, h6, h7⟩, h.rb, below_then h.bel hb⟩
  · rw [hb.block _ (heap_lt h1)]; exact h1
  · obtain ⟨es, clock, g1, g2⟩ := h4
    exact ⟨es, clock, by rw [hb.block _ (heap_lt g1)]; exact g1, g2⟩
/-- How a function of the reader ends: it gives up, or has read on. -/
def EndR (w0 : World) (Rb : Nat) (x : Except (Int × Nat) PS) (e : Ending) (w' : World) : Prop := match x with
  | .error (er, p) => e = .panicked (flt er (p : Int)) ∧ Below w0.heap.size w0 w'
  | .ok st => e = .returned (.tuple #[]) ∧ RdAt w0 Rb st w'
def labelV (st : PS) (x : List UInt8) (p : Nat) : Except (Int × Nat) PS :=
  if nameV x.dropLast then (if lab st.labs x.dropLast = none then .ok { st with labs := st.labs ++ [(x.dropLast, st.size)] } else .error (11, p)) else .error (9, p)
theorem strkeyed : Keyed Tryd.prog 9 := string_keyed Tryd.underlying9
theorem zero_intK (w : World) : (zeroValue 3).run Tryd.prog w = .ok (.int .i64 0) w := by kernel_rfl
theorem map_drew {H : Type} {P : Program} {k : TypeId} {R : Value → Option (DataW H × List MemPlace)} {b n : Nat} {D : DataW H} {w : World} (h : w.ownsMap P k R b n D) : w.drew.ownsMap P k R b n D := h
/-- A row is no map. -/
theorem own_map {w : World} {base : Nat} {e : TypeId} {sz n : Nat} {v : Value} {xs : List Value} (h : w.ownsRow base e sz v n xs) {b : Nat} {es : Array MapEntry} {clock : Nat} (hb : w.heap[b]? = some (.map es clock)) : v.ownBlock ≠ some b := fun hv => by
  rcases h.2 with ⟨h1, _⟩ | ⟨g, cap, cur, hv', _, hg, _⟩
  · rw [h1] at hv; simp [Value.ownBlock] at hv
  · rw [hv'] at hv
    simp [Value.ownBlock] at hv
    subst hv
    rw [hb] at hg
    cases hg
/-- A label is put down. -/
theorem RdAt.label {w0 : World} {Rb mb n : Nat} {st st2 : PS} {vo vu : Value} {D D2 : DataW Unit} {w w2 : World} {x : List UInt8} (hst : ({ st with labs := st.labs ++ [(x, st.size)] } : PS) = st2)
    (h1 : w.heap[Rb]? = some (.cells #[vo, .int .i64 (st.size : Int), .map (some mb), vu] 38 (0, 0))) (h2 : w.ownsRow w0.heap.size 53 2 vo st.ops.length (opsC st.ops)) (h3 : w.ownsRow w0.heap.size 77 4 vu st.us.length (usesC st.us))
    (h4 : w.ownsMap Tryd.prog 9 (plainElem Tryd.prog 3) mb n D) (h5 : LabOk (st.labs ++ [(x, st.size)]) D2) (h6 : w0.heap.size ≤ mb) (h7 : n ≤ st.labs.length) (hr : w0.heap.size ≤ Rb) (hb : Below w0.heap.size w0 w)
    (g1 : w2.ownsMap Tryd.prog 9 (plainElem Tryd.prog 3) mb (n + 1) D2) (g2 : w.grownBy w2 (some mb)) : RdAt w0 Rb st2 w2 := by
  subst hst
  obtain ⟨es, clock, m1, _⟩ := h4
  have hk : Keep [mb] w w2 := (Keep.refl _ _).grown g2 (fun b hb => Or.inl (by simpa using hb.symm))
  refine ⟨⟨vo, vu, mb, n + 1, D2, ?_, h2.kept g2 (Or.inr (own_map h2 m1)), h3.kept g2 (Or.inr (own_map h3 m1)), g1, h5, h6, by simp; omega⟩, hr, hb.grown g2 hb.size (fun b hb => by simp at hb; omega)⟩
  rw [hk.block _ (heap_lt h1) (by
    intro hm
    have hbm : Rb = mb := by simpa using hm
    rw [hbm, m1] at h1
    cases h1)]
  exact h1
theorem trim_any (x : List UInt8) (hx : x.length ≤ 1000000000) (h : x.getLast? = some 58) (w : World) : Calls Tryd.prog 61 #[.string (S x), .string ⟨#[58]⟩] w fun e w' => e = .returned (.string (S x.dropLast)) ∧ w' = w := by
  refine (Tryd.strings_TrimSuffix (S x) ⟨#[58]⟩ w (by rw [S_size]; omega)).mono ?_
  rintro e w' ⟨rfl, rfl⟩
  refine ⟨?_, rfl⟩
  congr 2
  show S (Lib.trimSuffix x [58]) = _
  unfold Lib.trimSuffix
  have hs : Lib.hasSuffix x [58] = true := by
    unfold Lib.hasSuffix
    rw [List.isSuffixOf_iff_suffix]
    obtain ⟨y, hy⟩ := List.getLast?_eq_some_iff.1 h
    exact ⟨y, hy.symm⟩
  rw [if_pos hs, List.dropLast_eq_take]
  rfl
/-- What holds cells stays as it is. -/
def KC (w w' : World) : Prop := ∀ (b : Nat) (cs : Array Value) (t : TypeId) (fr : Nat × Nat), w.heap[b]? = some (Obj.cells cs t fr) → w'.heap[b]? = some (Obj.cells cs t fr)
theorem putLabel_any {w0 : World} {Rb : Nat} {st : PS} (x : List UInt8) (hx : x.length ≤ 1000000000) (h58 : x.getLast? = some 58) (p : Nat) (hsz : st.size ≤ 512) (hlb : st.labs.length ≤ 1000000000) {w : World} (h : RdAt w0 Rb st w) :
    Calls Tryd.prog 46 #[.pointer (some ⟨Rb, 0, none⟩), .agg #[.string (S x), .int .i64 (p : Int)]] w fun e w' => EndR w0 Rb (labelV st x p) e w' ∧ (e = .returned (.tuple #[]) → KC w w') := by
  have HTR : Hid (∀ w, Calls Tryd.prog 61 #[.string (S x), .string ⟨#[58]⟩] w fun e w' => e = .returned (.string (S x.dropLast)) ∧ w' = w) := trim_any x hx h58
  have HNM : Hid (∀ w, Calls Tryd.prog 62 #[.string (S x.dropLast)] w fun e w' => e = .returned (.bool (nameV x.dropLast)) ∧ w' = w) := fun w => by
    have := name_any (S x.dropLast) (by rw [S_size, List.length_dropLast]; omega) w
    simpa [S] using this
  have HGU : Hid (∀ e p w, Calls Tryd.prog 28 #[.int .i64 e, .int .i64 p] w fun r w' => r = .panicked (flt e p) ∧ Below w.heap.size w w') := giveUp_any
  have HRD : Hid (RdAt w0 Rb st w) := h
  unfold labelV
  cases hn : nameV x.dropLast with
  | false =>
    rw [hn] at HNM
    simp only [Bool.false_eq_true, if_false]
    generalize S x.dropLast = N at *
    generalize S x = X at *
    clear h hn h58
    go_enter Tryd.func46, Tryd.ntmps46
    go_wp2_with fail
    refine (HTR.out _).mono ?_
    rintro e w1 ⟨rfl, rfl⟩
    go_wp2_with fail
    refine (HNM.out _).mono ?_
    rintro e w1 ⟨rfl, rfl⟩
    go_wp2_with fail
    refine (HGU.out _ _ _).mono ?_
    rintro e w1 ⟨rfl, hb⟩
    exact ⟨rfl, ⟨rfl, below_then (below_alloc HRD.out.bel _) hb⟩, fun h => by cases h⟩
  | true =>
    rw [hn] at HNM
    simp only [if_true]
    obtain ⟨vo, vu, mb, n, D, h1, h2, h3, h4, h5, h6, h7⟩ := h.ex
    have c2 : ∀ o, (w.alloc o).cell? ⟨Rb, 2, none⟩ = some (.map (some mb)) := fun o => by rw [World.cell?_alloc_past _ _ _ (heap_lt h1), cell_at h1]; rfl
    have c1 : ∀ o, (w.alloc o).cell? ⟨Rb, 1, none⟩ = some (.int .i64 (st.size : Int)) := fun o => by rw [World.cell?_alloc_past _ _ _ (heap_lt h1), cell_at h1]; rfl
    have hkey : keyOf Tryd.prog 9 (.string (S x.dropLast)) = some (.string x.dropLast) := by
      have := keyOf_string_mk (P := Tryd.prog) Tryd.underlying9 (s := S x.dropLast) (by rw [S_size, List.length_dropLast]; unfold maxLen; omega)
      simpa [S] using this
    have HOM : Hid (w.ownsMap Tryd.prog 9 (plainElem Tryd.prog 3) mb n D) := h4
    have hlk := h5.2 x.dropLast
    cases hl : lab st.labs x.dropLast with
    | some k =>
      rw [hl] at hlk
      simp only [Option.isSome_some] at hlk
      rw [if_neg (by simp)]
      have hhas : Maps.has D (.string x.dropLast) = true := hlk.1
      generalize S x.dropLast = N at *
      generalize S x = X at *
      generalize Lit.string x.dropLast = kk at *
      clear h hn h58 h1 h2 h3 h4 h5 hlk hl
      go_enter Tryd.func46, Tryd.ntmps46
      go_wp2_with fail
      refine (HTR.out _).mono ?_
      rintro e w1 ⟨rfl, hw1⟩
      obtain rfl := hw1
      go_wp2_with fail
      refine (HNM.out _).mono ?_
      rintro e w1 ⟨rfl, hw1⟩
      obtain rfl := hw1
      go_wp2_with (at_lookup; refine wpList_lookup_own_ok_int _ rfl _ _ 35 rfl 9 3 .i64 strkeyed Tryd.underlying35 Tryd.underlying3 (zero_intK _) mb n D rfl (HOM.out.alloc _) _ kk rfl hkey ?_; intro c hat hwc)
      refine (HGU.out _ _ _).mono ?_
      rintro e w1 ⟨rfl, hb⟩
      exact ⟨rfl, ⟨rfl, below_then (below_alloc HRD.out.bel _) hb⟩, fun h => by cases h⟩
    | none =>
      rw [hl] at hlk
      simp only [Option.isSome_none] at hlk
      rw [if_pos rfl]
      have hhas : Maps.has D (.string x.dropLast) = false := hlk.1
      have hwf : (Lit.int .i64 (st.size : Int)).wf = true := by simp [Lit.wf, IntKind.min, IntKind.max, IntKind.signed, IntKind.bits]; omega
      have HLP : Hid (LabOk (st.labs ++ [(x.dropLast, st.size)]) (D.put (.string x.dropLast) (.lit (.int .i64 (st.size : Int))))) := labOk_put h5 _ _ hl
      have HB1 : Hid (w.heap[Rb]? = some (.cells #[vo, .int .i64 (st.size : Int), .map (some mb), vu] 38 (0, 0))) := h1
      have HO2 : Hid (w.ownsRow w0.heap.size 53 2 vo st.ops.length (opsC st.ops)) := h2
      have HU3 : Hid (w.ownsRow w0.heap.size 77 4 vu st.us.length (usesC st.us)) := h3
      have HN7 : Hid (n ≤ st.labs.length) := h7
      have HM6 : Hid (w0.heap.size ≤ mb) := h6
      obtain ⟨st2, hst2⟩ : ∃ st2, ({ st with labs := st.labs ++ [(x.dropLast, st.size)] } : PS) = st2 := ⟨_, rfl⟩
      have HST2 : Hid (({ st with labs := st.labs ++ [(x.dropLast, st.size)] } : PS) = st2) := hst2
      rw [hst2]
      obtain ⟨kk, hkk⟩ : ∃ kk, Lit.string x.dropLast = kk := ⟨_, rfl⟩
      rw [hkk] at hkey hhas HLP
      generalize S x.dropLast = N at *
      generalize S x = X at *
      clear h hn h58 h1 h2 h3 h4 h5 hlk hl hkk hst2
      go_enter Tryd.func46, Tryd.ntmps46
      go_wp2_with fail
      refine (HTR.out _).mono ?_
      rintro e w1 ⟨rfl, hw1⟩
      obtain rfl := hw1
      go_wp2_with fail
      refine (HNM.out _).mono ?_
      rintro e w1 ⟨rfl, hw1⟩
      obtain rfl := hw1
      go_wp2_with (at_lookup; refine wpList_lookup_own_ok_int _ rfl _ _ 35 rfl 9 3 .i64 strkeyed Tryd.underlying35 Tryd.underlying3 (zero_intK _) mb n D rfl (HOM.out.alloc _) _ kk rfl hkey ?_; intro c hat hwc; clear hat hwc)
      obtain ⟨w2, hrun, hown2, hgrow2⟩ := (map_drew (HOM.out.alloc (.cells #[.string X, .int .i64 (p : Int)] 75))).update strkeyed Tryd.underlying35 (by unfold maxLen; omega) hkey (plainElem_int Tryd.underlying3 hwf)
      have HOW2 : Hid (w2.ownsMap Tryd.prog 9 (plainElem Tryd.prog 3) mb (n + 1) (D.put kk (.lit (.int .i64 (st.size : Int))))) := hown2
      have HGR2 : Hid ((w.alloc (.cells #[.string X, .int .i64 (p : Int)] 75)).drew.grownBy w2 (some mb)) := hgrow2
      have HKC : Hid (KC w w2) := fun b cs t fr hb => by
        have hk : Keep [mb] ((w.alloc (.cells #[.string X, .int .i64 (p : Int)] 75)).drew) w2 := (Keep.refl _ _).grown HGR2.out (fun b hb => Or.inl (by cases hb; simp))
        have hne : b ≠ mb := fun e => by
          obtain ⟨es, clock, g1, _⟩ := HOM.out
          rw [e, g1] at hb
          cases hb
        have hb2 : ((w.alloc (.cells #[.string X, .int .i64 (p : Int)] 75)).drew).heap[b]? = some (.cells cs t fr) := by
          show (w.alloc _).heap[b]? = _
          rw [Below.heap_alloc _ _ _ (heap_lt hb)]
          exact hb
        rw [hk.block _ (heap_lt hb2) (by simpa using hne)]
        exact hb2
      clear hown2 hgrow2
      go_region
      all_goals
        have HF : Hid (RdAt w0 Rb st2 w2) := RdAt.label (w := (w.alloc (.cells #[.string X, .int .i64 (p : Int)] 75)).drew) HST2.out (by show (w.alloc _).heap[Rb]? = _; rw [Below.heap_alloc _ _ _ (heap_lt HB1.out)]; exact HB1.out) (HO2.out.alloc _) (HU3.out.alloc _) (HOM.out.alloc _) HLP.out HM6.out HN7.out HRD.out.rb (below_alloc HRD.out.bel _).drew HOW2.out HGR2.out
        go_wp2
        go_end0
        exact ⟨⟨rfl, HF.out⟩, fun _ => HKC.out⟩
end Go.Proofs.YtbjopdmchmekpaaDoor
