/- A collection of the document's as it lies. -/
import Derived.Test.YtgbmnngmfcneaaaPlD
namespace Go.Proofs.Ytgbmnngmfcneaaa.Pl
open Go.ChangeShapes Go.WideShapes Go.ChangeAt Go.RowKit

/-- A shape lies in the midst of a row of them: the document's. -/
structure ShAt (w : World) (B g o : Nat) (L : List Value) (c : Co) (v p : Value) : Prop where
  hg : w.heap[g]? = some (.cells L.toArray 50 (0, 0))
  gB : B ≤ g
  h0 : L[o]? = some (.int .i64 c.kd)
  h2 : L[o + 1]? = some v
  h3 : L[o + 2]? = some p
  hv : w.ownsRow B 2 1 v c.vs.length (numC c.vs)
  hp : w.ownsRow B 52 2 p c.ps.length (prC c.ps)
  ok : CoOk c
/-- What a call answers, and what it leaves. -/
def Dod (w : World) (B g o : Nat) (L : List Value) (v p : Value) (x : (Int × Int) × Co) : Ending → World → Prop := fun e w' => e = .returned (.tuple #[.int .i64 x.1.1, .int .i64 x.1.2]) ∧ ∃ v' p', ShAt w' B g o ((L.set (o + 1) v').set (o + 2) p') x.2 v' p' ∧ Keep (g :: (v.ownBlock.toList ++ p.ownBlock.toList)) w w' ∧ Fr w v v' ∧ Fr w p p'
theorem i64_shp : (50 : TypeId) ≠ 2 := by decide
theorem pair_shp : (50 : TypeId) ≠ 52 := by decide
theorem ShAt.L2 {w : World} {B g o : Nat} {L : List Value} {c : Co} {v p : Value} (h : ShAt w B g o L c v p) : (L.set (o + 1) v).set (o + 2) p = L := by
  rw [list_set_self h.h2, list_set_self h.h3]
theorem ShAt.later {w w' : World} {B g o : Nat} {L : List Value} {c : Co} {v p : Value} (h : ShAt w B g o L c v p) (hb : Below w.heap.size w w') : ShAt w' B g o L c v p :=
  ⟨by rw [hb.block _ (heap_lt h.hg)]; exact h.hg, h.gB, h.h0, h.h2, h.h3, own_keep h.hv (Keep.of_below hb []) (by simp), own_keep h.hp (Keep.of_below hb []) (by simp), h.ok⟩
theorem ShAt.cells {w : World} {B g o : Nat} {L : List Value} {c : Co} {v p : Value} (h : ShAt w B g o L c v p) : w.cell? ⟨g, o, none⟩ = some (.int .i64 c.kd) ∧ w.cell? ⟨g, o + 1, none⟩ = some v ∧ w.cell? ⟨g, o + 2, none⟩ = some p := by
  have e : ∀ i : Nat, w.cell? ⟨g, i, none⟩ = L[i]? := fun i => by rw [cell_at h.hg]; simp
  exact ⟨(e _).trans h.h0, (e _).trans h.h2, (e _).trans h.h3⟩
theorem ShAt.frozen {w : World} {B g o : Nat} {L : List Value} {c : Co} {v p : Value} (h : ShAt w B g o L c v p) (i : Nat) : w.frozen? ⟨g, i, none⟩ = false := frozen_at h.hg i
theorem Dod.same {w w' : World} {B g o : Nat} {L : List Value} {c : Co} {v p : Value} (h : ShAt w B g o L c v p) (hb : Below w.heap.size w w') (x : Int × Int) : Dod w B g o L v p (x, c) (.returned (.tuple #[.int .i64 x.1, .int .i64 x.2])) w' :=
  ⟨rfl, v, p, by rw [h.L2]; exact h.later hb, Keep.of_below hb _, Fr.refl _ _, Fr.refl _ _⟩
/-- The values' row has become another; then the collection is given it. -/
theorem Dod.vals {w w1 : World} {B g o : Nat} {L : List Value} {c : Co} {v p v' : Value} {vs' : List Int} (h : ShAt w B g o L c v p) (hv : w1.ownsRow B 2 1 v' vs'.length (numC vs')) (hn : Next v.ownBlock.toList v'.ownBlock.toList w w1) (hok : CoOk { c with vs := vs' }) (x : Int × Int) :
    Dod w B g o L v p (x, { c with vs := vs' }) (.returned (.tuple #[.int .i64 x.1, .int .i64 x.2])) (w1.setCell ⟨g, o + 1, none⟩ v') := by
  have hgv : ∀ b, v.ownBlock = some b → b ≠ g := fun b hb e => own_ne h.hv h.hg i64_shp (e ▸ hb)
  have hg1 : w1.heap[g]? = some (.cells L.toArray 50 (0, 0)) := by
    rw [hn.1.block _ (heap_lt h.hg) (fun e => by simp at e; exact hgv _ e rfl)]
    exact h.hg
  have hgv' : ∀ b, v'.ownBlock = some b → b ≠ g := fun b hb e => own_ne hv hg1 i64_shp (e ▸ hb)
  have hp1 : w1.ownsRow B 52 2 p c.ps.length (prC c.ps) := own_keep h.hp hn.1 (fun b hb e => by
    simp at e
    rcases h.hv.2 with ⟨rfl, _⟩ | ⟨g2, _, cur, rfl, _, hg2, _⟩
    · simp [Value.ownBlock] at e
    · simp [Value.ownBlock] at e
      subst e
      exact own_ne h.hp hg2 i64_pair hb)
  have hgp : ∀ b, p.ownBlock = some b → b ≠ g := fun b hb e => own_ne hp1 hg1 pair_shp (e ▸ hb)
  have hL : (L.set (o + 1) v')[o + 2]? = some p := by rw [List.getElem?_set_ne (by omega)]; exact h.h3
  have hlo : o + 1 < L.length := (List.getElem?_eq_some_iff.1 h.h2).1
  have hk : Keep [g] w1 (w1.setCell ⟨g, o + 1, none⟩ v') := Keep.setCell (Keep.refl _ _) _ _ (Or.inl (by simp))
  refine ⟨rfl, v', p, ?_, ?_⟩
  · rw [list_set_self hL]
    refine ⟨?_, h.gB, ?_, ?_, hL, own_keep hv hk (fun b hb => by simpa using hgv' b hb), own_keep hp1 hk (fun b hb => by simpa using hgp b hb), hok⟩
    · rw [heap_set hg1]
      simp
    · rw [List.getElem?_set_ne (by omega)]; exact h.h0
    · rw [List.getElem?_set_self hlo]
  · exact ⟨(hn.1.mono (fun b hb => by simp at hb; simp [hb])).trans (hk.mono (G := g :: (v.ownBlock.toList ++ p.ownBlock.toList)) (by simp)) (fun b hb => Or.inl hb), Fr.of hn, Fr.refl _ _⟩
/-- The same of the pairs' row. -/
theorem Dod.prs {w w1 : World} {B g o : Nat} {L : List Value} {c : Co} {v p p' : Value} {ps' : List (Int × Int)} (h : ShAt w B g o L c v p) (hp : w1.ownsRow B 52 2 p' ps'.length (prC ps')) (hn : Next p.ownBlock.toList p'.ownBlock.toList w w1) (hok : CoOk { c with ps := ps' }) (x : Int × Int) :
    Dod w B g o L v p (x, { c with ps := ps' }) (.returned (.tuple #[.int .i64 x.1, .int .i64 x.2])) (w1.setCell ⟨g, o + 2, none⟩ p') := by
  have hgp : ∀ b, p.ownBlock = some b → b ≠ g := fun b hb e => own_ne h.hp h.hg pair_shp (e ▸ hb)
  have hg1 : w1.heap[g]? = some (.cells L.toArray 50 (0, 0)) := by
    rw [hn.1.block _ (heap_lt h.hg) (fun e => by simp at e; exact hgp _ e rfl)]
    exact h.hg
  have hgp' : ∀ b, p'.ownBlock = some b → b ≠ g := fun b hb e => own_ne hp hg1 pair_shp (e ▸ hb)
  have hv1 : w1.ownsRow B 2 1 v c.vs.length (numC c.vs) := own_keep h.hv hn.1 (fun b hb e => by
    simp at e
    rcases h.hp.2 with ⟨rfl, _⟩ | ⟨g2, _, cur, rfl, _, hg2, _⟩
    · simp [Value.ownBlock] at e
    · simp [Value.ownBlock] at e
      subst e
      exact own_ne h.hv hg2 (fun e => i64_pair e.symm) hb)
  have hgv : ∀ b, v.ownBlock = some b → b ≠ g := fun b hb e => own_ne hv1 hg1 i64_shp (e ▸ hb)
  have hlo : o + 2 < L.length := (List.getElem?_eq_some_iff.1 h.h3).1
  have hk : Keep [g] w1 (w1.setCell ⟨g, o + 2, none⟩ p') := Keep.setCell (Keep.refl _ _) _ _ (Or.inl (by simp))
  refine ⟨rfl, v, p', ?_, ?_⟩
  · rw [list_set_self h.h2]
    refine ⟨?_, h.gB, ?_, ?_, ?_, own_keep hv1 hk (fun b hb => by simpa using hgv b hb), own_keep hp hk (fun b hb => by simpa using hgp' b hb), hok⟩
    · rw [heap_set hg1]
      simp
    · rw [List.getElem?_set_ne (by omega)]; exact h.h0
    · rw [List.getElem?_set_ne (by omega)]; exact h.h2
    · rw [List.getElem?_set_self hlo]
  · exact ⟨(hn.1.mono (fun b hb => by simp at hb; simp [hb])).trans (hk.mono (G := g :: (v.ownBlock.toList ++ p.ownBlock.toList)) (by simp)) (fun b hb => Or.inl hb), Fr.refl _ _, Fr.of hn⟩
/-- A row is written into where it lies. -/
theorem Dod.valsIn {w w1 : World} {B g o : Nat} {L : List Value} {c : Co} {v p : Value} {vs' : List Int} (h : ShAt w B g o L c v p) (hv : w1.ownsRow B 2 1 v vs'.length (numC vs')) (hn : Keep v.ownBlock.toList w w1) (hok : CoOk { c with vs := vs' }) (x : Int × Int) :
    Dod w B g o L v p (x, { c with vs := vs' }) (.returned (.tuple #[.int .i64 x.1, .int .i64 x.2])) w1 := by
  have hgv : ∀ b, v.ownBlock = some b → b ≠ g := fun b hb e => own_ne h.hv h.hg i64_shp (e ▸ hb)
  have hg1 : w1.heap[g]? = some (.cells L.toArray 50 (0, 0)) := by
    rw [hn.block _ (heap_lt h.hg) (fun e => by simp at e; exact hgv _ e rfl)]
    exact h.hg
  have hp1 : w1.ownsRow B 52 2 p c.ps.length (prC c.ps) := own_keep h.hp hn (fun b hb e => by
    simp at e
    rcases h.hv.2 with ⟨rfl, _⟩ | ⟨g2, _, cur, rfl, _, hg2, _⟩
    · simp [Value.ownBlock] at e
    · simp [Value.ownBlock] at e
      subst e
      exact own_ne h.hp hg2 i64_pair hb)
  refine ⟨rfl, v, p, ?_, hn.mono (fun b hb => by simp at hb; simp [hb]), Fr.refl _ _, Fr.refl _ _⟩
  rw [h.L2]
  exact ⟨hg1, h.gB, h.h0, h.h2, h.h3, hv, hp1, hok⟩
theorem Dod.prsIn {w w1 : World} {B g o : Nat} {L : List Value} {c : Co} {v p : Value} {ps' : List (Int × Int)} (h : ShAt w B g o L c v p) (hp : w1.ownsRow B 52 2 p ps'.length (prC ps')) (hn : Keep p.ownBlock.toList w w1) (hok : CoOk { c with ps := ps' }) (x : Int × Int) :
    Dod w B g o L v p (x, { c with ps := ps' }) (.returned (.tuple #[.int .i64 x.1, .int .i64 x.2])) w1 := by
  have hgp : ∀ b, p.ownBlock = some b → b ≠ g := fun b hb e => own_ne h.hp h.hg pair_shp (e ▸ hb)
  have hg1 : w1.heap[g]? = some (.cells L.toArray 50 (0, 0)) := by
    rw [hn.block _ (heap_lt h.hg) (fun e => by simp at e; exact hgp _ e rfl)]
    exact h.hg
  have hv1 : w1.ownsRow B 2 1 v c.vs.length (numC c.vs) := own_keep h.hv hn (fun b hb e => by
    simp at e
    rcases h.hp.2 with ⟨rfl, _⟩ | ⟨g2, _, cur, rfl, _, hg2, _⟩
    · simp [Value.ownBlock] at e
    · simp [Value.ownBlock] at e
      subst e
      exact own_ne h.hv hg2 (fun e => i64_pair e.symm) hb)
  refine ⟨rfl, v, p, ?_, hn.mono (fun b hb => by simp at hb; simp [hb]), Fr.refl _ _, Fr.refl _ _⟩
  rw [h.L2]
  exact ⟨hg1, h.gB, h.h0, h.h2, h.h3, hv1, hp, hok⟩
end Go.Proofs.Ytgbmnngmfcneaaa.Pl
