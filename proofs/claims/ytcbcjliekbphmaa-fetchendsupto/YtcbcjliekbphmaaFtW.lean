/- A machine of layer 9 beside a memory and a ring that grows. -/
import Derived.Test.YtcbcjliekbphmaaFsT
import Derived.Test.YtcbcjliekbphmaaSigQ
namespace Go.Proofs.Ytcbcjliekbphmaa
open Go.ChangeShapes Go.WideShapes Go.ChangeAt Go.RowKit
attribute [local go_sem ↓] Go.wp_at_zero Go.wp_at_succ

theorem kw_fstep {w0 w : World} {base : Nat} {p : Value} {L : List Ac} {X Gk : Nat} {g : GR} {C : Cp} {b : Ck} {R : List (Nat × Obj)} {n : Nat} (h : KW w0 w base p L X Gk g C b R) (hs : C.s = g.size) (hL : L.length < 3298534883328) (hk : KOk C b n) (h0 : 0 ≤ C.cell) (hv : W64 (wordOf L (adK C b))) (t : Int) :
    Calls Try.prog 15 #[.pointer (some ⟨X, 0, none⟩), p, .int .i64 t] w fun e w' => e = .returned (ansW (ansF 8 C.s C b L) (errF 8 C.s C b L) (valF 8 C.s C b L) (accF 8 C.s C b)) ∧ KW w0 w' base p (nextFL 8 C.s C b L t) X Gk g (nextFP 8 C.s C L) (nextFB 8 C.s C b L) R := by
  obtain ⟨F, P, h1⟩ := h.all
  have hX : X < w.heap.size := heap_lt h1.at_
  have hXF : X ∉ F := fun e => h1.out (List.mem_append_left _ e)
  refine (fstep (c := 8) (r := C.s) ⟨by rw [hs]; exact h1.gm.mem, h1.at_, hXF, h1.lo⟩ h.size hL hk h0 (fun _ _ _ => hv) t).mono ?_
  rintro e w' ⟨rfl, F', h2, hn⟩
  have hd : ∀ q ∈ P, q ∉ X :: F := fun q hq e => by
    rcases List.mem_cons.1 e with rfl | e
    · exact h1.out (List.mem_append_right _ hq)
    · exact h1.gm.apart q e hq
  have hnn : Next (X :: (F ++ P)) (X :: (F' ++ P)) w w' := ⟨hn.1.mono (fun q hq => by
      rcases List.mem_cons.1 hq with rfl | hq
      · simp
      · simp [hq]), fun q hq => by
      rcases List.mem_cons.1 hq with rfl | hq
      · exact Or.inl (by simp)
      · rcases List.mem_append.1 hq with h3 | h3
        · rcases hn.2 q (List.mem_cons_of_mem _ h3) with h4 | h4
          · rcases List.mem_cons.1 h4 with rfl | h4
            · exact Or.inl (by simp)
            · exact Or.inl (by simp [h4])
          · exact Or.inr h4
        · exact Or.inl (by simp [h3])⟩
  refine ⟨rfl, ⟨F', P, ⟨by rw [← hs]; exact h2.mem, h1.gm.gr.keep hn.1 hd, fun q hq hp => ?_⟩, h2.at_, fun e => ?_, h1.lo, h1.kept.next hnn⟩, h.bel.trans (hn.below h.bel.size (fun q hq => ?_)), h.lo, Nat.le_trans h.size hn.1.size⟩
  · rcases hn.2 q (List.mem_cons_of_mem _ hq) with h3 | h3
    · exact hd q hp h3
    · have := (h1.gm.gr.lt q hp).2; omega
  · rcases List.mem_append.1 e with h3 | h3
    · exact h2.out h3
    · exact h1.out (List.mem_append_right _ h3)
  · have hlo := h.lo
    rcases List.mem_cons.1 hq with rfl | hq
    · have := h1.lo; omega
    · have := (h1.gm.mem.lt q hq).1; omega
theorem kw_fstart {w0 w : World} {base : Nat} {p : Value} {L : List Ac} {X Gk : Nat} {g : GR} {C : Cp} {b : Ck} {R : List (Nat × Obj)} (h : KW w0 w base p L X Gk g C b R) :
    Calls Try.prog 25 #[.pointer (some ⟨X, 0, none⟩)] w fun e w' => e = .returned (.tuple #[.int .i64 (if b.st = 4 then b.comp else 0), .int .i64 (if b.st = 4 then b.seen else 0), .bool (decide (b.st = 4))]) ∧ KW w0 w' base p L X Gk g C b R := by
  obtain ⟨F, P, h1⟩ := h.all
  refine (fstart_any h1.at_).mono ?_
  rintro e w' ⟨rfl, hb⟩
  exact ⟨rfl, h.later hb⟩
theorem kw_value {w0 w : World} {base : Nat} {p : Value} {L : List Ac} {X Gk : Nat} {g : GR} {C : Cp} {b : Ck} {R : List (Nat × Obj)} (h : KW w0 w base p L X Gk g C b R) (hk : GOk g) (cell stamp : Int) :
    Calls Try.prog 22 #[.pointer (some ⟨Gk, 0, none⟩), .int .i64 cell, .int .i64 stamp] w fun e w' => e = .returned (.int .i64 (valueV g cell stamp)) ∧ KW w0 w' base p L X Gk g C b R := by
  obtain ⟨F, P, h1⟩ := h.all
  refine (value_any h1.gm.gr hk cell stamp).mono ?_
  rintro e w' ⟨rfl, hb⟩
  exact ⟨rfl, h.later hb⟩
theorem fw_value {w0 w : World} {base : Nat} {p : Value} {L : List Ac} {Gk : Nat} {g : GR} (h : FW w0 w base p L Gk g) (hk : GOk g) (cell stamp : Int) :
    Calls Try.prog 22 #[.pointer (some ⟨Gk, 0, none⟩), .int .i64 cell, .int .i64 stamp] w fun e w' => e = .returned (.int .i64 (valueV g cell stamp)) ∧ FW w0 w' base p L Gk g := by
  obtain ⟨F, P, h1⟩ := h.all
  refine (value_any h1.gr hk cell stamp).mono ?_
  rintro e w' ⟨rfl, hb⟩
  exact ⟨rfl, h.later hb⟩
theorem fw_peek {w0 w : World} {base : Nat} {p : Value} {L : List Ac} {Gk : Nat} {g : GR} (h : FW w0 w base p L Gk g) (c : Int) (h0 : 0 ≤ c) (h8 : c < 8) :
    Calls Try.prog 26 #[p, .agg #[.int .i64 4, .int .i64 c, .int .i64 0]] w fun e w' => e = .returned (.tuple #[.int .i64 (wordOf L ⟨4, c, 0⟩), .int .i64 0]) ∧ FW w0 w' base p L Gk g := by
  obtain ⟨F, P, h1⟩ := h.all
  have ha : isAd 8 g.size ⟨4, c, 0⟩ = true := by unfold isAd; simp [h0, h8]
  have := peek_any h1.mem ⟨4, c, 0⟩
  rw [if_pos ha, if_pos ha] at this
  refine Calls.mono this ?_
  rintro e w' ⟨rfl, hb⟩
  exact ⟨rfl, h.later hb⟩
theorem FW.okS {w0 w : World} {base : Nat} {p : Value} {L : List Ac} {Gk : Nat} {g : GR} (h : FW w0 w base p L Gk g) : ∀ e ∈ g.l, Sg.Ok e.s := by
  obtain ⟨F, P, h1⟩ := h.all
  obtain ⟨v, us, hg⟩ := h1.gr
  exact hg.okS
/-- A machine beside a ring, no row besides. -/
theorem kw_new0 {w0 w w' : World} {base : Nat} {p : Value} {L : List Ac} {Gk : Nat} {g : GR} {C : Cp} {b : Ck} {X : Nat} (h : FW w0 w base p L Gk g) (hb : Below w.heap.size w w') (hX : w.heap.size ≤ X) (hx : KAt w' X C b) : KW w0 w' base p L X Gk g C b [] := by
  obtain ⟨F, P, h1⟩ := h.all
  have hlt : ∀ q ∈ F ++ P, q < w.heap.size := fun q hq => by
    rcases List.mem_append.1 hq with h3 | h3
    · exact (h1.mem.lt q h3).2
    · exact (h1.gr.lt q h3).2
  exact ⟨⟨F, P, h1.below hb, hx, fun e => by have := hlt _ e; omega, Nat.le_trans h.size hX, fun z hz => by simp at hz⟩, below_then h.bel hb, h.lo, Nat.le_trans h.size hb.size⟩
/-- A list of one, of two numbers that is laid anew. -/
theorem lst1 (w : World) (a : Int) : Sg.Lst (w.alloc (.cells #[.int .i64 a] 3)) (.slice (some ⟨w.heap.size, 0, none⟩) 1 1) [a] := ⟨_, 1, rfl, by simp, Or.inr ⟨_, rfl, fun i hi => by
    obtain rfl : i = 0 := by simp at hi; omega
    rw [show (⟨w.heap.size, 0, none⟩ : Addr).add 0 = ⟨w.heap.size, 0, none⟩ from rfl, cell_at (heap_alloc_new w _)]; rfl⟩⟩
theorem lst2 (w : World) (a b : Int) : Sg.Lst (w.alloc (.cells #[.int .i64 a, .int .i64 b] 3)) (.slice (some ⟨w.heap.size, 0, none⟩) 2 2) [a, b] := ⟨_, 2, rfl, by simp, Or.inr ⟨_, rfl, fun i hi => by
    rcases i with _ | _ | i
    · rw [show (⟨w.heap.size, 0, none⟩ : Addr).add 0 = ⟨w.heap.size, 0, none⟩ from rfl, cell_at (heap_alloc_new w _)]; rfl
    · rw [show (⟨w.heap.size, 0, none⟩ : Addr).add 1 = ⟨w.heap.size, 1, none⟩ from rfl, cell_at (heap_alloc_new w _)]; rfl
    · simp at hi; omega⟩⟩
theorem lst2o (w : World) (o : Obj) (a b : Int) : Sg.Lst ((w.alloc o).alloc (.cells #[.int .i64 a, .int .i64 b] 3)) (.slice (some ⟨w.heap.size + 1, 0, none⟩) 2 2) [a, b] := by
  have h := lst2 (w.alloc o) a b
  have e : (w.alloc o).heap.size = w.heap.size + 1 := by simp
  rw [e] at h
  exact h
/-- What stays of the machine. -/
structure PIs (P : Cp) (s : Nat) (z : Int) (rd : List Nat) (c : Int) : Prop where
  s : P.s = s
  z : P.z = z
  rd : P.rd = rd
  c : P.cell = c
theorem PIs.next {P : Cp} {s : Nat} {z : Int} {rd : List Nat} {c : Int} (h : PIs P s z rd c) (n r : Nat) (L : List Ac) : PIs (nextFP n r P L) s z rd c := by
  obtain ⟨a, b, d, e⟩ := nextFP_cell n r P L
  exact ⟨b.trans h.s, d.trans h.z, e.trans h.rd, a.trans h.c⟩
end Go.Proofs.Ytcbcjliekbphmaa
