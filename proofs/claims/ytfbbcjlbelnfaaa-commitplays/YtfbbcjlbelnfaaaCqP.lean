/- Both machines of layer 8 and both memories under way, beside rows that are kept. -/
import Derived.Test.YtfbbcjlbelnfaaaCqL
import Derived.Test.YtfbbcjlbelnfaaaActL
namespace Go.Proofs.Ytfbbcjlbelnfaaa
open Go.ChangeShapes Go.WideShapes Go.ChangeAt Go.RowKit
attribute [local go_sem ↓] Go.wp_at_zero Go.wp_at_succ

structure KD (w : World) (base : Nat) (q : Value) (c r : Nat) (L : List Ac) (K : List Nat) (Y : Nat) (P : Cp) (l : List Int) (G : List Nat) : Prop where
  ref : RefAt w base q c r L K
  rk : RK w base Y P l G
  apart : ∀ b ∈ G, b ∉ K
theorem KD.lt {w : World} {base : Nat} {q : Value} {c r : Nat} {L : List Ac} {K : List Nat} {Y : Nat} {P : Cp} {l : List Int} {G : List Nat} (h : KD w base q c r L K Y P l G) : ∀ b ∈ G ++ K, base ≤ b ∧ b < w.heap.size := fun b hb => by
  rcases List.mem_append.1 hb with h1 | h1
  · exact h.rk.lt b h1
  · exact h.ref.lt b h1
theorem KD.keep {w w' : World} {base : Nat} {q : Value} {c r : Nat} {L : List Ac} {K F : List Nat} {Y : Nat} {P : Cp} {l : List Int} {G : List Nat} (h : KD w base q c r L K Y P l G) (k : Keep F w w') (hd : ∀ b ∈ G ++ K, b ∉ F) : KD w' base q c r L K Y P l G :=
  ⟨h.ref.keep k (fun b hb => hd b (by simp [hb])), h.rk.keep k (fun b hb => hd b (by simp [hb])), h.apart⟩
theorem KD.below {w w' : World} {base : Nat} {q : Value} {c r : Nat} {L : List Ac} {K : List Nat} {Y : Nat} {P : Cp} {l : List Int} {G : List Nat} (h : KD w base q c r L K Y P l G) (hb : Below w.heap.size w w') : KD w' base q c r L K Y P l G := h.keep (Keep.of_below hb []) (fun _ _ => by simp)
theorem KD.onRef {w w' : World} {base : Nat} {q : Value} {c r : Nat} {L L' : List Ac} {K K' : List Nat} {Y : Nat} {P : Cp} {l : List Int} {G : List Nat} (h : KD w base q c r L K Y P l G) (hr : RefAt w' base q c r L' K') (hn : Next K K' w w') : KD w' base q c r L' K' Y P l G :=
  ⟨hr, h.rk.keep hn.1 h.apart, fun b hb hk => by
    rcases hn.2 b hk with h1 | h1
    · exact h.apart b hb h1
    · have := (h.rk.lt b hb).2; omega⟩
theorem kdstep {w : World} {base Y : Nat} {P : Cp} {q : Value} {c r : Nat} {L : List Ac} {l : List Int} {K G : List Nat} (h : KD w base q c r L K Y P l G) (hb : base ≤ w.heap.size) (hL : L.length < 3298534883328) (hk : LKk P l) (hp : POk P) (hg : Gd L) (t : Int) :
    Calls Try.prog 55 #[.pointer (some ⟨Y, 3, none⟩), q, .int .i64 t] w fun e w' => e = .returned (.tuple #[.int .i64 (ansKK r P (runK P l) L), .int .i64 (errKK r P (runK P l) L)]) ∧ ∃ K' G', KD w' base q c r (nextKL c r P (runK P l) L t) K' Y P (nextKI r P (runK P l) L l) G' ∧ Next (G ++ K) (G' ++ K') w w' := by
  by_cases hgo : goesK r P (runK P l) = true
  · unfold ansKK errKK nextKL nextKI
    rw [if_pos hgo, if_pos hgo, if_pos hgo, if_pos hgo]
    obtain ⟨h2, rfl⟩ := goesK_iff.mp hgo
    refine (rkstep_some ⟨h.ref, h.rk, h.apart⟩ hb hL hk hp h2 (hg _) t).mono ?_
    rintro e w' ⟨rfl, K', G', h3, h4⟩
    exact ⟨rfl, K', G', ⟨h3.ref, h3.rk, h3.apart⟩, h4⟩
  · unfold ansKK errKK nextKL nextKI
    rw [if_neg hgo, if_neg hgo, if_neg hgo, if_neg hgo]
    refine (rkstep_none h.ref h.rk hk hp (by simpa using hgo) t).mono ?_
    rintro e w' ⟨rfl, hb'⟩
    exact ⟨rfl, K, G, h.below hb', Next.of_below hb' _⟩
end Go.Proofs.Ytfbbcjlbelnfaaa
