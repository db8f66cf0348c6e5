/- Both machines of layer 9 and both memories under way; the law's tells. -/
import Derived.Test.YtcbcjliekbphmaaFtD
import Derived.Test.YtcbcjliekbphmaaJFtBFtS
import Derived.Test.YtcbcjliekbphmaaJSigESigU
namespace Go.Proofs.Ytcbcjliekbphmaa
open Go.ChangeShapes Go.WideShapes Go.ChangeAt Go.RowKit
attribute [local go_sem ↓] Go.wp_at_zero Go.wp_at_succ

theorem ansKK_ne (r : Nat) (P : Cp) (b : Ck) (L : List Ac) : (ansKK r P b L != 0) = goesK r P b := by
  unfold ansKK
  by_cases h : goesK r P b = true
  · rw [if_pos h, h]
    unfold kindK kindV
    split
    · rfl
    · split
      · rfl
      · split <;> rfl
  · rw [if_neg h, show goesK r P b = false by simpa using h]; rfl
theorem ansF_ne (c r : Nat) (P : Cp) (b : Ck) (L : List Ac) : (ansF c r P b L != 0) = accF c r P b := by
  unfold ansF accF
  split
  · split
    · exact ansKK_ne r P b L
    · rfl
  · rfl
theorem kbw_fstep {w0 w : World} {base : Nat} {p q : Value} {c r : Nat} {L K : List Ac} {X Y : Nat} {P Q : Cp} {b : Ck} {l : List Int} {R : List (Nat × Obj)} {n : Nat} (hw : KBW w0 w base p q c r L K X Y P b Q l R) (hL : L.length < 3298534883328) (hk : KOk P b n) (hg : Gd L) (h0 : 0 ≤ P.cell) (t : Int) :
    Calls Try.prog 15 #[.pointer (some ⟨X, 0, none⟩), p, .int .i64 t] w fun e w' => e = .returned (ansW (ansF c r P b L) (errF c r P b L) (valF c r P b L) (accF c r P b)) ∧ KBW w0 w' base p q c r (nextFL c r P b L t) K X Y (nextFP c r P L) (nextFB c r P b L) Q l R := by
  obtain ⟨F, D, G, h⟩ := hw.all
  refine (fstep h.ps hw.size hL hk h0 (fun _ _ _ => hg _) t).mono ?_
  rintro e w' ⟨rfl, F', h2, hn⟩
  exact ⟨rfl, hw.onP h h2 hn⟩
theorem kbw_fdstep {w0 w : World} {base : Nat} {p q : Value} {c r : Nat} {L K : List Ac} {X Y : Nat} {P Q : Cp} {b : Ck} {l : List Int} {R : List (Nat × Obj)} (hw : KBW w0 w base p q c r L K X Y P b Q l R) (hL : K.length < 3298534883328) (hk : LKk Q l) (hp : POk Q) (hg : Gd K) (h0 : 0 ≤ Q.cell) (t : Int) :
    Calls Try.prog 16 #[.pointer (some ⟨Y, 0, none⟩), q, .int .i64 t] w fun e w' => e = .returned (.tuple #[.int .i64 (ansF c r Q (runK Q l) K), .int .i64 (errF c r Q (runK Q l) K), .int .i64 (valF c r Q (runK Q l) K)]) ∧ KBW w0 w' base p q c r L (nextFL c r Q (runK Q l) K t) X Y P b (nextFP c r Q K) (nextFI c r Q l K) R := by
  obtain ⟨F, D, G, h⟩ := hw.all
  refine (fdstep h.ds hw.size hL hk hp hg h0 t).mono ?_
  rintro e w' ⟨rfl, D', G', h2, hn⟩
  exact ⟨rfl, hw.onD h h2 hn⟩
theorem fpl_next {c r : Nat} {P : Cp} {l : List Int} {L : List Ac} (h : LKk P l) (hg : Gd L) (hu : P.read = false → l = []) :
    LKk (nextFP c r P L) (nextFI c r P l L) ∧ runK (nextFP c r P L) (nextFI c r P l L) = nextFB c r P (runK P l) L ∧ ((nextFP c r P L).read = false → nextFI c r P l L = []) := by
  unfold nextFP nextFI nextFB
  by_cases e : goesF c r P = true
  · simp only [if_pos e]
    by_cases er : P.read = true
    · simp only [if_pos er]
      obtain ⟨h1, h2⟩ := lkk_next (r := r) h hg
      exact ⟨h1, h2, fun hc => by rw [er] at hc; simp at hc⟩
    · simp only [if_neg er]
      have hp := h.all.p
      obtain rfl := hu (by simpa using er)
      refine ⟨lkk_nil (pok_look hp _), rfl, ?_⟩
      intro _
      first | rfl | trivial
  · simp only [if_neg e]
    exact ⟨h, trivial, hu⟩
set_option maxRecDepth 10000 in
theorem tells_any {w : World} {base X Y : Nat} {P : Cp} {l : List Int} {G : List Nat} (hx : KAt w X P (runK P l)) (h : RK w base Y P l G) (hk : LKk P l) (hp : POk P) :
    Calls Try.prog 17 #[.pointer (some ⟨X, 0, none⟩), .pointer (some ⟨Y, 0, none⟩)] w fun e w' => e = .returned (.bool true) ∧ Below w.heap.size w w' := by
  have H1 : Hid (Calls Try.prog 25 #[.pointer (some ⟨X, 0, none⟩)] w fun e w' => e = .returned (.tuple #[.int .i64 (if (runK P l).st = 4 then (runK P l).comp else 0), .int .i64 (if (runK P l).st = 4 then (runK P l).seen else 0), .bool (decide ((runK P l).st = 4))]) ∧ Below w.heap.size w w') := fstart_any hx
  have H2 : Hid (∀ w', Below w.heap.size w w' → Calls Try.prog 40 #[.pointer (some ⟨Y, 3, none⟩)] w' fun e w'' => e = .returned (.tuple #[.int .i64 (if (runK P l).st = 4 then (runK P l).comp else 0), .int .i64 (if (runK P l).st = 4 then (runK P l).seen else 0), .bool (decide ((runK P l).st = 4))]) ∧ Below w'.heap.size w' w'') := fun w' hb => rkstart_any (h.below hb) hk hp
  have H3 : Hid (∀ w', Below w.heap.size w w' → Calls Try.prog 41 #[.pointer (some ⟨X, 0, none⟩)] w' fun e w'' => e = .returned (.agg #[rdV P.rd 0, rdV P.rd 1, rdV P.rd 2, rdV P.rd 3, rdV P.rd 4, rdV P.rd 5, rdV P.rd 6, rdV P.rd 7]) ∧ Below w'.heap.size w' w'') := fun w' hb => freads_any (hx.below hb (heap_lt hx))
  have H4 : Hid (∀ w', Below w.heap.size w w' → w'.cell? ⟨Y, 5, none⟩ = some (rdV P.rd 0) ∧ w'.cell? ⟨Y, 6, none⟩ = some (rdV P.rd 1) ∧ w'.cell? ⟨Y, 7, none⟩ = some (rdV P.rd 2) ∧ w'.cell? ⟨Y, 8, none⟩ = some (rdV P.rd 3) ∧ w'.cell? ⟨Y, 9, none⟩ = some (rdV P.rd 4) ∧ w'.cell? ⟨Y, 10, none⟩ = some (rdV P.rd 5) ∧ w'.cell? ⟨Y, 11, none⟩ = some (rdV P.rd 6) ∧ w'.cell? ⟨Y, 12, none⟩ = some (rdV P.rd 7)) := fun w' hb => by
    obtain ⟨a, cap, hkl⟩ := (h.below hb).kl
    exact hkl.reads
  have heq : ∀ w, (binOp .eql 24 (.agg #[rdV P.rd 0, rdV P.rd 1, rdV P.rd 2, rdV P.rd 3, rdV P.rd 4, rdV P.rd 5, rdV P.rd 6, rdV P.rd 7]) (.agg #[rdV P.rd 0, rdV P.rd 1, rdV P.rd 2, rdV P.rd 3, rdV P.rd 4, rdV P.rd 5, rdV P.rd 6, rdV P.rd 7])).run Try.prog w = .ok (.bool true) w := fun w => by
    rw [rd_cells hp.rd.1]
    have := Sg.eql_sig P.rd P.rd hp.rd.1 hp.rd.1 w
    rw [this]; simp
  have hY : Y < w.heap.size := (h.lt Y h.mem).2
  have hX : X < w.heap.size := heap_lt hx
  generalize (if (runK P l).st = 4 then (runK P l).comp else 0) = z1 at *
  generalize (if (runK P l).st = 4 then (runK P l).seen else 0) = z2 at *
  generalize decide ((runK P l).st = 4) = z3 at *
  clear hx h hk
  unfold rdV at *
  generalize P.rd.getD 0 0 = n0 at *
  generalize P.rd.getD 1 0 = n1 at *
  generalize P.rd.getD 2 0 = n2 at *
  generalize P.rd.getD 3 0 = n3 at *
  generalize P.rd.getD 4 0 = n4 at *
  generalize P.rd.getD 5 0 = n5 at *
  generalize P.rd.getD 6 0 = n6 at *
  generalize P.rd.getD 7 0 = n7 at *
  go_enter Try.func17, Try.ntmps17
  go_wp2_with fail
  refine H1.out.mono ?_
  rintro e w1 ⟨rfl, hb1⟩
  have HB1 : Hid (Below w.heap.size w w1) := hb1
  have hY1 : Y < w1.heap.size := Nat.lt_of_lt_of_le hY hb1.size
  clear hb1
  go_wp2_with fail
  refine (H2.out _ HB1.out).mono ?_
  rintro e w2 ⟨rfl, hb2⟩
  have HB2 : Hid (Below w.heap.size w w2) := below_then HB1.out hb2
  clear hb2
  go_wp2_with fail
  refine (H3.out _ HB2.out).mono ?_
  rintro e w3 ⟨rfl, hb3⟩
  have HB3 : Hid (Below w.heap.size w w3) := below_then HB2.out hb3
  obtain ⟨y5, y6, y7, y8, y9, y10, y11, y12⟩ := H4.out _ HB3.out
  have hY3 : Y < w3.heap.size := Nat.lt_of_lt_of_le hY HB3.out.size
  clear hb3
  have e1 : (z1 == z1) = true := by simp
  have e2 : (z2 == z2) = true := by simp
  have e3 : (z3 == z3) = true := by simp
  go_wp2
  go_quiet (fail)
  go_wp2
  go_ret
  exact ⟨rfl, below_drawn (below_alloc HB3.out _) _⟩
theorem kbw_tells {w0 w : World} {base : Nat} {p q : Value} {c r : Nat} {L K : List Ac} {X Y : Nat} {P : Cp} {l : List Int} {R : List (Nat × Obj)} (hw : KBW w0 w base p q c r L K X Y P (runK P l) P l R) (hk : LKk P l) :
    Calls Try.prog 17 #[.pointer (some ⟨X, 0, none⟩), .pointer (some ⟨Y, 0, none⟩)] w fun e w' => e = .returned (.bool true) ∧ KBW w0 w' base p q c r L K X Y P (runK P l) P l R := by
  obtain ⟨F, D, G, h⟩ := hw.all
  refine (tells_any h.ps.at_ h.ds.rk hk hk.all.p).mono ?_
  rintro e w' ⟨rfl, hb⟩
  exact ⟨rfl, hw.later hb⟩
end Go.Proofs.Ytcbcjliekbphmaa
