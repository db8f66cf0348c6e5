/- The program's Txs. -/
import Derived.Test.YtadollckekddgaaDoorHiK
namespace Go.Proofs.YtadollckekddgaaDoor.Hi
open Go.ChangeShapes Go.WideShapes Go.ChangeAt Go.RowKit
set_option linter.unusedVariables false
set_option maxRecDepth 100000

def t6 (t : Tr) : List Value := [.int .i64 t.th, .int .i64 t.bg, .int .i64 t.en, .int .i64 t.st, .int .i64 t.sn, .int .i64 t.er]
def t6s (l : List Tr) : List Value := l.flatMap t6
theorem t6s_snoc (l : List Tr) (t : Tr) : t6s (l ++ [t]) = t6s l ++ t6 t := by simp [t6s]
theorem t6s_len (l : List Tr) : (t6s l).length = l.length * 6 := by
  induction l with
  | nil => rfl
  | cons e l ih => simp only [t6s, List.flatMap_cons, List.length_append, List.length_cons] at ih ⊢; rw [ih]; simp [t6]; omega
theorem take_nt {l : List Tr} {j : Nat} (h : j < l.length) : l.take (j + 1) = l.take j ++ [nt l j] := by
  rw [List.take_add_one]
  simp [nt, h]
theorem info_txv : (Tryd.prog.info? 33).map (fun i => (i.zero, i.size, i.bytes)) = some (some (.agg #[.int .i64 0, .int .i64 0, .int .i64 0, .int .i64 0, .int .i64 0, .int .i64 0]), 6, 48) := by kernel_rfl
theorem hw_inc (j n : Nat) (h : n ≤ 925925926000) (hj : j ≤ n) : wrap64 ((j : Int) + 1) = (j : Int) + 1 := by
  unfold wrap64
  omega
/-- A row of pointers, one of them. -/
theorem PAt.at {w : World} {B P k : Nat} {p : Pa} {b : Nat → Nat} {V : Nat → Value} {vt vp : Value} (h : PAt w B P k p b V vt vp) {g cap : Nat} (hv : vt = .slice (some ⟨g, 0, none⟩) p.txs.length cap) {i : Nat} (hi : i < p.txs.length) : w.cell? ⟨g, i, none⟩ = some (.pointer (some ⟨b i, 0, none⟩)) ∧ w.rangeAt (b i) 0 (t6 (nt p.txs i)) := by
  obtain ⟨g', cap', e1, _, e3⟩ := own_at h.ts hi
  rw [hv] at e1
  simp at e1
  refine ⟨by rw [e1.1]; exact e3, fun j u hu => ?_⟩
  rw [Nat.zero_add, cell_at (h.tx i hi)]
  have hj : j < 6 := by have := (List.getElem?_eq_some_iff.1 hu).1; simpa [t6] using this
  rw [← hu]
  rcases (show j = 0 ∨ j = 1 ∨ j = 2 ∨ j = 3 ∨ j = 4 ∨ j = 5 by omega) with rfl | rfl | rfl | rfl | rfl | rfl <;> rfl
/-- What Txs tells. -/
def TxsQ (w : World) (H : List Ev) (e : Ending) (w' : World) : Prop :=
  (match readD H with
  | some p => ∃ v, e = .returned (.tuple #[v, .int .i64 0, .int .i64 0]) ∧ w'.ownsRow w.heap.size 33 6 v p.txs.length (t6s p.txs)
  | none => e = .returned (.tuple #[.slice none 0 0, .int .i64 14, .int .i64 (good H : Int)])) ∧ Below w.heap.size w w'
/-- An error's place. -/
def PlaceQ (w : World) (n : Int) (e : Ending) (w' : World) : Prop := e = .returned (.int .i64 n) ∧ Below w.heap.size w w'
set_option maxHeartbeats 1600000 in
theorem txs_any {w : World} {v : Value} {H : List Ev} {a c : Addr} (h : EvL w v H) (he : ErrAt w a c) (hpl : readD H = none → ∀ w', Below w.heap.size w w' → Calls Tryd.prog 12 #[flt (good H) a] w' (PlaceQ w' (good H))) : Calls Tryd.prog 5 #[v] w (TxsQ w H) := by
  obtain ⟨i0, hi0, hz0, hz1, hz2⟩ := info_parts info_txv
  have HRD : Hid (Calls Tryd.prog 10 #[v] w (ReadQ w H a)) := read_any h he
  have HE : Hid (ErrAt w a c) := he
  have HPL0 : Hid (readD H = none → ∀ w', Below w.heap.size w w' → Calls Tryd.prog 12 #[flt (good H) a] w' (PlaceQ w' (good H))) := hpl
  have HER : Hid (∀ w', Below w.heap.size w w' → Calls Tryd.prog 11 #[flt (good H) a] w' fun e w'' => e = .returned (.int .i64 14) ∧ Below w'.heap.size w' w'') := fun w' hb => errno_fault (he.later hb (Nat.le_refl _)) _
  unfold TxsQ
  have HM := h.len
  clear h he hpl
  unfold ReadQ at HRD
  cases hr : readD H with
  | none =>
    rw [hr] at HRD
    have HPL : Hid (∀ w', Below w.heap.size w w' → Calls Tryd.prog 12 #[flt (good H) a] w' (PlaceQ w' (good H))) := HPL0.out hr
    clear HPL0
    dsimp only at *
    unfold PlaceQ at HPL
    unfold flt at HRD HPL HER
    generalize (good H : Int) = gd at *
    generalize (Value.agg #[.int .i64 gd, .iface 127 (.pointer (some a))]) = z at *
    go_enter Tryd.func5, Tryd.ntmps5
    go_wp2_with fail
    refine HRD.out.mono ?_
    rintro e w1 ⟨rfl, hb1⟩
    have HB1 : Hid (Below w.heap.size w w1) := hb1
    clear hb1
    go_wp2_with fail
    refine (HER.out _ HB1.out).mono ?_
    rintro e w2 ⟨rfl, hb2⟩
    have HB2 : Hid (Below w.heap.size w w2) := HB1.out.trans (hb2.mono HB1.out.size)
    clear hb2
    go_wp2_with fail
    refine (HPL.out _ HB2.out).mono ?_
    rintro e w3 ⟨rfl, hb3⟩
    go_wp2_with fail
    go_ret3
    exact ⟨rfl, HB2.out.trans (hb3.mono HB2.out.size)⟩
  | some p =>
    rw [hr] at HRD
    clear HPL0
    dsimp only at *
    go_enter Tryd.func5, Tryd.ntmps5
    go_wp2_with fail
    refine HRD.out.mono ?_
    rintro e w1 ⟨⟨P, b, V, vt, vp, rfl, hp⟩, hb1⟩
    have HP1 : Hid (PAt w1 w.heap.size P H.length p b V vt vp) := hp
    have HB1 : Hid (Below w.heap.size w w1) := hb1
    have hpn : p.txs.length ≤ 925925926000 := Nat.le_trans hp.bd.1 HM
    have hP1 : w1.cell? ⟨P, 1, none⟩ = some vt := by rw [cell_at hp.pa]; simp
    obtain ⟨sa, cap, rfl⟩ := own_slice hp.ts
    unfold ptr
    clear hp hb1 HRD
    go_wp2_with fail
    go_loopw [7, 26] (fun lv iv wr => ∃ j : Nat, j ≤ p.txs.length ∧ iv = .int .i64 (j : Int) ∧ Hid (wr.ownsRow w1.heap.size 33 6 lv j (t6s (p.txs.take j))) ∧ Hid (Below w1.heap.size w1 wr)) (fun _ iv _ => p.txs.length - (intOf iv).toNat)
    case atStart => exact ⟨0, Nat.zero_le _, rfl, ⟨rfl, Or.inl ⟨rfl, rfl⟩⟩, Below.refl _ _⟩
    case round =>
      obtain ⟨j, hj, rfl, HO, HB⟩ := hrel
      by_cases hlt : j < p.txs.length
      · have hjd : decide ((j : Int) < (p.txs.length : Int)) = true := by simp; omega
        have HPr : Hid (PAt wr w.heap.size P H.length p b V (.slice sa p.txs.length cap) vp) := HP1.out.later HB.out
        obtain ⟨g, hs⟩ : ∃ g, sa = some ⟨g, 0, none⟩ := by
          obtain ⟨g, cap', hs, _, _⟩ := own_at HPr.out.ts hlt
          simp at hs
          exact ⟨g, hs.1⟩
        subst hs
        obtain ⟨hc1, hr1⟩ := HPr.out.at rfl hlt
        have c0 : wr.cell? ⟨b j, 0, none⟩ = some (.int .i64 (nt p.txs j).th) := hr1 0 _ rfl
        have c1 : wr.cell? ⟨b j, 1, none⟩ = some (.int .i64 (nt p.txs j).bg) := hr1 1 _ rfl
        have c2 : wr.cell? ⟨b j, 2, none⟩ = some (.int .i64 (nt p.txs j).en) := hr1 2 _ rfl
        have c3 : wr.cell? ⟨b j, 3, none⟩ = some (.int .i64 (nt p.txs j).st) := hr1 3 _ rfl
        have c4 : wr.cell? ⟨b j, 4, none⟩ = some (.int .i64 (nt p.txs j).sn) := hr1 4 _ rfl
        have c5 : wr.cell? ⟨b j, 5, none⟩ = some (.int .i64 (nt p.txs j).er) := hr1 5 _ rfl
        have hw1 : Hid (wrap64 ((j : Int) + 1) = (j : Int) + 1) := hw_inc j p.txs.length hpn hj
        have HMS : Hid (p.txs.length - (j + 1) < p.txs.length - j) := by rw [Hid]; omega
        have HS : Hid (t6s (p.txs.take (j + 1)) = t6s (p.txs.take j) ++ t6 (nt p.txs j)) := by rw [Hid, take_nt hlt, t6s_snoc]
        have hjl : (j : Int) < (p.txs.length : Int) := by omega
        have hjn : j ≤ 925925926000 := by omega
        obtain ⟨la, lc, rfl⟩ := own_slice HO.out
        have hlB : w1.heap.size ≤ wr.heap.size := HB.out.size
        have hxl : (t6s (p.txs.take j)).length = j * 6 := by rw [t6s_len]; simp; omega
        clear hr1
        unfold t6 at HS
        generalize t6s (p.txs.take j) = xs at *
        generalize nt p.txs j = t at *
        obtain ⟨th, bg, en, st, sn, er, sg, ac⟩ := t
        dsimp only at *
        generalize b j = X at *
        go_wp2_with (at_builtin; refine list_lies_wide _ rfl _ _ 24 rfl w1.heap.size 33 i0 _ 6 48 Tryd.underlying24 hi0 hz0 hz1 hz2 rfl (by decide) _ _ _ rfl (HO.out.alloc _) ⟨wr.heap.size, 0, none⟩ 1 1 [.int .i64 th, .int .i64 bg, .int .i64 en, .int .i64 st, .int .i64 sn, .int .i64 er] rfl rfl (World.news_of_block (cs := #[.int .i64 th, .int .i64 bg, .int .i64 en, .int .i64 st, .int .i64 sn, .int .i64 er]) (t := 33) (fr := (0, 0)) (heap_alloc_new wr _)) (by simp [Value.oneCell']) (by decide) (by unfold maxLen; omega) (by omega) (by simp; omega) _ rfl ?_)
        intro gg cap2 w3 hown1 hgrow hat hlt3
        have HO3 : Hid (w3.ownsRow w1.heap.size 33 6 (.slice (some ⟨gg, 0, none⟩) (j + 1) cap2) (j + 1) (t6s (p.txs.take (j + 1)))) := by rw [Hid, HS.out]; exact hown1
        have HB3 : Hid (Below w1.heap.size w1 w3) := by
          have k : Keep (Value.slice la j lc).ownBlock.toList wr w3 := (((Keep.refl [] wr).alloc _).mono (by simp)).grown hgrow (fun b hb => Or.inl (by rw [hb]; simp))
          exact HB.out.trans (k.below hlB (fun x hx => (own_block HO.out x (by simpa using hx)).1))
        clear hown1 hgrow hat hlt3 c0 c1 c2 c3 c4 c5 hc1
        go_wp2_with fail
        go_roundw
        case rel => exact ⟨j + 1, hlt, by go_num, HO3, HB3⟩
        case measure => simpa [intOf] using HMS.out
      · obtain rfl : j = p.txs.length := by omega
        have ho2 := HO.out
        rw [List.take_length] at ho2
        have HO2 : Hid _ := ho2
        clear ho2
        go_wp2_with fail
        go_ret3
        exact ⟨⟨_, rfl, own_base HO2.out HB1.out.size⟩, HB1.out.trans (HB.out.mono HB1.out.size)⟩
end Go.Proofs.YtadollckekddgaaDoor.Hi
