/- What the words of a ring say, whoever writes them: stamps, heads, signatures. -/
import Derived.Test.YthnegagpmkblfaaGreatDoorJMemMBegM
import Derived.Test.YthnegagpmkblfaaGreatDoorJSigMFcM
namespace Go.Proofs.YthnegagpmkblfaaGreatDoor
open Go.RowKit (wrap64)

theorem VI.over {f : Ad → Int} {g : Vw} (h : VI f g) (t : Int) (h1 : 1 ≤ t) (h2 : t ≤ (g.n : Int)) : overV (f ⟨2, t % (g.size : Int), 0⟩) t = decide (t ≤ (g.d : Int)) := by
  have hw := h.win
  have hd := h.dn
  have hh := h.head t h1 h2
  generalize f ⟨2, t % (g.size : Int), 0⟩ = v at *
  rw [Bool.eq_iff_iff]
  unfold overV laidV
  simp only [Bool.or_eq_true, Bool.and_eq_true, decide_eq_true_eq, beq_iff_eq]
  rcases hh with ⟨_, _, a3, a4⟩ | ⟨a1, a2⟩ | ⟨a1, a2⟩
  · rw [← a4]; omega
  · omega
  · omega
end Go.Proofs.YthnegagpmkblfaaGreatDoor
