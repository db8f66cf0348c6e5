/- Both machines of layer 7, each beside its memory, whatever the ring's size. -/
import Derived.Test.YtcckdjmbjghbdaaBegH
namespace Go.Proofs.Ytcckdjmbjghbdaa
open Go.ChangeShapes Go.WideShapes Go.ChangeAt Go.RowKit
attribute [local go_sem ↓] Go.wp_at_zero Go.wp_at_succ

/-- Does it load? What that makes of the machine, the log and the loads; the answer's kind. -/
def goesB (r s : Nat) (b : Bg) : Bool := decide (r = s) && decide (b.st ≠ 2)
def nextB (r s : Nat) (b : Bg) (L : List Ac) : Bg := if goesB r s b then stepV s b (wordOf L (adV s b)) else b
def nextL (c r s : Nat) (b : Bg) (L : List Ac) (t : Int) : List Ac := if goesB r s b then loadL c r L t (adV s b) else L
def nextI (r s : Nat) (b : Bg) (L : List Ac) (l : List Int) : List Int := if goesB r s b then l ++ [wordOf L (adV s b)] else l
def ansK (r s : Nat) (b : Bg) (L : List Ac) : Int := if goesB r s b then (if (stepV s b (wordOf L (adV s b))).st = 2 then 3 else 2) else 0
structure PS (w : World) (base : Nat) (p : Value) (c r : Nat) (L : List Ac) (F : List Nat) (X s : Nat) (b : Bg) : Prop where
  mem : MemAt w base p c r L F
  at_ : BAt w X s b
  out : X ∉ F
  lo : base ≤ X
theorem PS.lt {w : World} {base : Nat} {p : Value} {c r : Nat} {L : List Ac} {F : List Nat} {X s : Nat} {b : Bg} (h : PS w base p c r L F X s b) : ∀ q ∈ X :: F, base ≤ q ∧ q < w.heap.size := fun q hq => by
  rcases List.mem_cons.1 hq with rfl | hq
  · exact ⟨h.lo, heap_lt h.at_⟩
  · exact h.mem.lt q hq
theorem PS.keep {w w' : World} {base : Nat} {p : Value} {c r : Nat} {L : List Ac} {F G : List Nat} {X s : Nat} {b : Bg} (h : PS w base p c r L F X s b) (k : Keep G w w') (hd : ∀ q ∈ X :: F, q ∉ G) : PS w' base p c r L F X s b :=
  ⟨h.mem.keep k (fun q hq => hd q (by simp [hq])), h.at_.keep k (hd X (by simp)), h.out, h.lo⟩
theorem PS.below {w w' : World} {base : Nat} {p : Value} {c r : Nat} {L : List Ac} {F : List Nat} {X s : Nat} {b : Bg} (h : PS w base p c r L F X s b) (hb : Below w.heap.size w w') : PS w' base p c r L F X s b := h.keep (Keep.of_below hb []) (fun _ _ => by simp)
theorem PS.onMem {w w' : World} {base : Nat} {p : Value} {c r : Nat} {L L' : List Ac} {F F' : List Nat} {X s : Nat} {b : Bg} (h : PS w base p c r L F X s b) (hm : MemAt w' base p c r L' F') (hn : Next F F' w w') : PS w' base p c r L' F' X s b :=
  ⟨hm, h.at_.keep hn.1 h.out, fun e => by
    rcases hn.2 X e with h1 | h1
    · exact h.out h1
    · have := heap_lt h.at_; omega, h.lo⟩
theorem nextX {F F' : List Nat} {X : Nat} {w w' : World} (h : Next F F' w w') : Next (X :: F) (X :: F') w w' :=
  ⟨h.1.mono (fun q hq => by simp [hq]), fun q hq => by
    rcases List.mem_cons.1 hq with rfl | hq
    · exact Or.inl (by simp)
    · rcases h.2 q hq with h1 | h1
      · exact Or.inl (by simp [h1])
      · exact Or.inr h1⟩
theorem pstep {w : World} {base : Nat} {p : Value} {c r : Nat} {L : List Ac} {F : List Nat} {X s : Nat} {b : Bg} (h : PS w base p c r L F X s b) (hb : base ≤ w.heap.size) (hL : L.length < 3298534883328) (hk : BOk s b) (t : Int) :
    Calls Try.prog 14 #[.pointer (some ⟨X, 0, none⟩), p, .int .i64 t] w fun e w' => e = .returned (ansC (ansK r s b L) (goesB r s b)) ∧ ∃ F', PS w' base p c r (nextL c r s b L t) F' X s (nextB r s b L) ∧ Next (X :: F) (X :: F') w w' := by
  by_cases hg : goesB r s b = true
  · unfold ansK nextL nextB
    rw [if_pos hg, if_pos hg, if_pos hg, hg]
    obtain ⟨rfl, h2⟩ : r = s ∧ b.st ≠ 2 := by simpa [goesB] using hg
    refine (step_some ⟨h.mem, h.at_, h.out, h.lo⟩ hb hL hk h2 t).mono ?_
    rintro e w' ⟨rfl, F', h3, h4⟩
    exact ⟨rfl, F', ⟨h3.mem, h3.at_, h3.out, h3.lo⟩, h4⟩
  · unfold ansK nextL nextB
    rw [if_neg hg, if_neg hg, if_neg hg, show goesB r s b = false by simpa using hg]
    refine (step_none h.mem h.at_ (by
      by_cases e : r = s
      · right; simpa [goesB, e] using hg
      · exact Or.inl e) t).mono ?_
    rintro e w' ⟨rfl, hb'⟩
    exact ⟨rfl, F, h.below hb', Next.of_below hb' _⟩

structure DS (w : World) (base : Nat) (q : Value) (c r : Nat) (L : List Ac) (K : List Nat) (Y s : Nat) (l : List Int) (G : List Nat) : Prop where
  ref : RefAt w base q c r L K
  rb : RB w base Y s l G
  apart : ∀ b ∈ G, b ∉ K
theorem DS.lt {w : World} {base : Nat} {q : Value} {c r : Nat} {L : List Ac} {K : List Nat} {Y s : Nat} {l : List Int} {G : List Nat} (h : DS w base q c r L K Y s l G) : ∀ b ∈ G ++ K, base ≤ b ∧ b < w.heap.size := fun b hb => by
  rcases List.mem_append.1 hb with h1 | h1
  · exact h.rb.lt b h1
  · exact h.ref.lt b h1
theorem DS.keep {w w' : World} {base : Nat} {q : Value} {c r : Nat} {L : List Ac} {K F : List Nat} {Y s : Nat} {l : List Int} {G : List Nat} (h : DS w base q c r L K Y s l G) (k : Keep F w w') (hd : ∀ b ∈ G ++ K, b ∉ F) : DS w' base q c r L K Y s l G :=
  ⟨h.ref.keep k (fun b hb => hd b (by simp [hb])), h.rb.keep k (fun b hb => hd b (by simp [hb])), h.apart⟩
theorem DS.below {w w' : World} {base : Nat} {q : Value} {c r : Nat} {L : List Ac} {K : List Nat} {Y s : Nat} {l : List Int} {G : List Nat} (h : DS w base q c r L K Y s l G) (hb : Below w.heap.size w w') : DS w' base q c r L K Y s l G := h.keep (Keep.of_below hb []) (fun _ _ => by simp)
theorem DS.onRef {w w' : World} {base : Nat} {q : Value} {c r : Nat} {L L' : List Ac} {K K' : List Nat} {Y s : Nat} {l : List Int} {G : List Nat} (h : DS w base q c r L K Y s l G) (hr : RefAt w' base q c r L' K') (hn : Next K K' w w') : DS w' base q c r L' K' Y s l G :=
  ⟨hr, h.rb.keep hn.1 h.apart, fun b hb hk => by
    rcases hn.2 b hk with h1 | h1
    · exact h.apart b hb h1
    · have := (h.rb.lt b hb).2; omega⟩
theorem dstep {w : World} {base Y s : Nat} {q : Value} {c r : Nat} {L : List Ac} {l : List Int} {K G : List Nat} {b : Bg} (h : DS w base q c r L K Y s l G) (hb : base ≤ w.heap.size) (hL : L.length < 3298534883328) (hk : BOk s b) (hg : LOk s b l) (hv : W64 (wordOf L (adV s b))) (t : Int) :
    Calls Try.prog 15 #[.pointer (some ⟨Y, 0, none⟩), q, .int .i64 t] w fun e w' => e = .returned (.int .i64 (ansK r s b L)) ∧ ∃ K' G', DS w' base q c r (nextL c r s b L t) K' Y s (nextI r s b L l) G' ∧ Next (G ++ K) (G' ++ K') w w' := by
  by_cases hgo : goesB r s b = true
  · unfold ansK nextL nextI
    rw [if_pos hgo, if_pos hgo, if_pos hgo]
    obtain ⟨rfl, h2⟩ : r = s ∧ b.st ≠ 2 := by simpa [goesB] using hgo
    refine (rstep_some ⟨h.ref, h.rb, h.apart⟩ hb hL hk hg h2 hv t).mono ?_
    rintro e w' ⟨rfl, K', G', h3, h4⟩
    exact ⟨rfl, K', G', ⟨h3.ref, h3.rb, h3.apart⟩, h4⟩
  · unfold ansK nextL nextI
    rw [if_neg hgo, if_neg hgo, if_neg hgo]
    refine (rstep_none h.ref h.rb hg (by
      by_cases e : r = s
      · right; simpa [goesB, e] using hgo
      · exact Or.inl e) t).mono ?_
    rintro e w' ⟨rfl, hb'⟩
    exact ⟨rfl, K, G, h.below hb', Next.of_below hb' _⟩
theorem bok_next {r s : Nat} {b : Bg} {L : List Ac} (h : BOk s b) (hv : W64 (wordOf L (adV s b))) : BOk s (nextB r s b L) := by
  unfold nextB
  split
  · exact bok_step h hv
  · exact h
theorem lok_next {r s : Nat} {b : Bg} {L : List Ac} {l : List Int} (h : LOk s b l) (hv : W64 (wordOf L (adV s b))) : LOk s (nextB r s b L) (nextI r s b L l) := by
  unfold nextB nextI
  by_cases hg : goesB r s b = true
  · rw [if_pos hg, if_pos hg]
    obtain ⟨_, h2⟩ : r = s ∧ b.st ≠ 2 := by simpa [goesB] using hg
    exact lok_step h hv h2
  · rw [if_neg hg, if_neg hg]; exact h
theorem nextL_len (c r s : Nat) (b : Bg) (L : List Ac) (t : Int) : (nextL c r s b L t).length ≤ L.length + 1 := by
  unfold nextL loadL
  repeat' split
  all_goals simp
theorem wordOf_load (c r : Nat) (L : List Ac) (t : Int) (a : Ad) : wordOf (loadL c r L t a) = wordOf L := by
  unfold loadL
  split
  · exact wordOf_miss rfl
  · rfl
theorem wordOf_next (c r s : Nat) (b : Bg) (L : List Ac) (t : Int) : wordOf (nextL c r s b L t) = wordOf L := by
  unfold nextL
  split
  · exact wordOf_load _ _ _ _ _
  · rfl

set_option maxRecDepth 10000 in
theorem starts_any {w : World} {base X Y s : Nat} {l : List Int} {G : List Nat} {b : Bg} (hx : BAt w X s b) (h : RB w base Y s l G) (hg : LOk s b l) :
    Calls Try.prog 16 #[.pointer (some ⟨X, 0, none⟩), .pointer (some ⟨Y, 0, none⟩)] w fun e w' => e = .returned (.bool true) ∧ Below w.heap.size w w' := by
  have H1 : Hid (Calls Try.prog 20 #[.pointer (some ⟨X, 0, none⟩)] w fun e w' => e = .returned (.tuple #[.int .i64 (if b.st = 2 then b.stamp else 0), .int .i64 (if b.st = 2 then b.seen else 0), .bool (decide (b.st = 2))]) ∧ Below w.heap.size w w') := start_any hx
  have H2 : Hid (∀ w', Below w.heap.size w w' → Calls Try.prog 32 #[.pointer (some ⟨Y, 0, none⟩)] w' fun e w'' => e = .returned (.tuple #[.int .i64 (if b.st = 2 then b.stamp else 0), .int .i64 (if b.st = 2 then b.seen else 0), .bool (decide (b.st = 2))]) ∧ Below w'.heap.size w' w'') := fun w' hb => rstart_any (h.below hb) hg
  generalize (if b.st = 2 then b.stamp else 0) = z1 at *
  generalize (if b.st = 2 then b.seen else 0) = z2 at *
  generalize decide (b.st = 2) = z3 at *
  clear hx h hg
  go_enter Try.func16, Try.ntmps16
  go_wp2_with fail
  refine H1.out.mono ?_
  rintro e w1 ⟨rfl, hb1⟩
  have HB1 : Hid (Below w.heap.size w w1) := hb1
  clear hb1
  go_wp2_with fail
  refine (H2.out _ HB1.out).mono ?_
  rintro e w2 ⟨rfl, hb2⟩
  have HB2 : Hid (Below w.heap.size w w2) := below_then HB1.out hb2
  clear hb2
  go_wp2
  go_ret
  exact ⟨by simp, HB2.out⟩
end Go.Proofs.Ytcckdjmbjghbdaa
