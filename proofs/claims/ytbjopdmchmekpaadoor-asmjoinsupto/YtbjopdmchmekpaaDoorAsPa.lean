/- Parse of the program, of whatever text. -/
import Derived.Test.YtbjopdmchmekpaaDoorAsZ
import Derived.Test.YtbjopdmchmekpaaDoorAsGd
namespace Go.Proofs.YtbjopdmchmekpaaDoor
open Go.ChangeShapes Go.WideShapes Go.ChangeAt Go.RowKit

/-- What Parse answers. -/
def ansV : Except (Int × Nat) (List (Int × Int)) → Value
  | .error ep => ansE ep
  | .ok l => .tuple #[.string (strOfNums (allB l)), .int .i64 0, .int .i64 0]
theorem parV_err {t : List UInt8} {ep : Int × Nat} (h : linesV ⟨[], [], 0, []⟩ (t.length + 1) t 0 = .error ep) : parV t = .error ep := by
  unfold parV; rw [h]
theorem parV_ok {t : List UInt8} {st : PS} (h : linesV ⟨[], [], 0, []⟩ (t.length + 1) t 0 = .ok st) : parV t = resU st.labs st.us st.ops := by
  unfold parV; rw [h]
theorem ansR_par {t : List UInt8} (X : Except (Int × Nat) PS) (h : linesV ⟨[], [], 0, []⟩ (t.length + 1) t 0 = X) :
    ansR X (fun st => putO st (resU st.labs st.us st.ops)) = ansV (parV t) := by
  cases X with
  | error ep => rw [parV_err h]; rfl
  | ok st =>
    have hp := parV_ok h
    have h1 : ansR (.ok st) (fun st => putO st (resU st.labs st.us st.ops)) = ansY (putO st (resU st.labs st.us st.ops)) := rfl
    rw [h1]
    cases hr : resU st.labs st.us st.ops with
    | error ep => rw [hp, hr]; rfl
    | ok l =>
      rw [hr] at hp
      have hk := par_ok hp
      rw [hp]
      show Value.tuple #[.string (strOfNums (encV l).1), .int .i64 0, .int .i64 0] = _
      rw [hk.2.2]
      rfl
theorem parse_any (s : ByteArray) (hs : s.size ≤ 20000000) {w : World} (hT : TabE w) : Calls Tryd.prog 7 #[.string s] w fun e w' => e = .returned (ansV (parV s.data.toList)) ∧ Below w.heap.size w w' := by
  obtain ⟨X, hX⟩ : ∃ X, linesV ⟨[], [], 0, []⟩ (s.data.toList.length + 1) s.data.toList 0 = X := ⟨_, rfl⟩
  have hgd : ∀ st, X = .ok st → GdP st := fun st h => gd_lines gd_nil (hX.trans h)
  have hrun := parse_run (w := w) s X (fun st => putO st (resU st.labs st.us st.ops))
    (fun w0 Rb w' hb hr => by
      have := readLines_any (hT.later hb) s hs hr
      rw [hX] at this
      exact this)
    (fun st w0 Rb w' he hr => by
      have g := hgd st he
      exact resolve_any (fun u hu => by obtain ⟨a, b, c, _⟩ := g.us u hu; exact ⟨a, by omega, by omega⟩) (fun n k hk => by have := lab_le g.lb hk; omega) g.len (Nat.le_trans g.ul g.len) hr)
    (fun w' v l' hb ho => enc_any (hT.later hb).1.1 ho)
    (fun st st2 he h2 => by
      have g := hgd st he
      cases hr : resU st.labs st.us st.ops with
      | error e => simp only [hr, putO] at h2; cases h2
      | ok l =>
        simp only [hr, putO, Except.ok.injEq] at h2
        rw [← h2]
        obtain ⟨_, h3, _⟩ := gd_res g.lb st.us st.ops l g.ok (fun u hu => by obtain ⟨a, _, b, c⟩ := g.us u hu; exact ⟨a, b, c⟩) hr
        have := g.len
        show l.length ≤ 1000
        omega)
  refine hrun.mono fun e w' ⟨he, hb⟩ => ⟨?_, hb⟩
  rw [he, ansR_par X hX]
end Go.Proofs.YtbjopdmchmekpaaDoor
