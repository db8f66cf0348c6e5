/- Two machines of layer 11 over one memory under way. -/
import Derived.Test.YtbmmicfdnfpcaaaBkX
import Derived.Test.YtbmmicfdnfpcaaaBoM
namespace Go.Proofs.Ytbmmicfdnfpcaaa
open Go.ChangeShapes Go.WideShapes Go.ChangeAt Go.RowKit

/-- A machine that does not move while another one does. -/
theorem BS.beside {w w' : World} {base : Nat} {p : Value} {c r : Nat} {L L' : List Ac} {F F' : List Nat} {X Y : Nat} {Q : Bp} {d : Bk} {v : Value} (h : BS w base p c r L F Y Q d v) (hm : MemAt w' base p c r L' F') (hn : Next (X :: F) (X :: F') w w') (hne : Y ≠ X) (hv : ∀ k, v.ownBlock = some k → k ≠ X) : BS w' base p c r L' F' Y Q d v := by
  have hY := heap_lt h.row
  have hYo : Y ∉ X :: F := fun e => by
    rcases List.mem_cons.1 e with e | e
    · exact hne e
    · exact h.out e
  have hko : ∀ k, v.ownBlock = some k → k ∉ X :: F := fun k hk e => by
    rcases List.mem_cons.1 e with e | e
    · exact hv k hk e
    · exact h.gout k hk (List.mem_cons_of_mem _ e)
  refine ⟨hm, h.row.keep hn.1 hYo, own_keep h.own hn.1 hko, fun e => ?_, fun k hk e => ?_, h.lo⟩
  · rcases hn.2 Y (List.mem_cons_of_mem _ e) with h1 | h1
    · exact hYo h1
    · omega
  · rcases List.mem_cons.1 e with e | e
    · exact h.gout k hk (by simp [e])
    · rcases hn.2 k (List.mem_cons_of_mem _ e) with h1 | h1
      · exact hko k hk h1
      · have := (own_block h.own k hk).2; omega
structure OS (w : World) (base : Nat) (p : Value) (s : Nat) (L : List Ac) (F : List Nat) (X : Nat) (P : Bp) (b : Bk) (u : Value) (Y : Nat) (Q : Bp) (d : Bk) (v : Value) (R : List (Nat × Obj)) : Prop where
  x : BS w base p 8 s L F X P b u
  y : BS w base p 8 s L F Y Q d v
  ne : X ≠ Y
  xv : ∀ k, v.ownBlock = some k → k ≠ X
  yu : ∀ k, u.ownBlock = some k → k ≠ Y
  kept : ∀ z ∈ R, w.heap[z.1]? = some z.2 ∧ z.1 ≠ X ∧ z.1 ≠ Y ∧ z.1 ∉ F
/-- Some way into the law. -/
structure OW (w0 w : World) (M X Y s : Nat) (P Q : Bp) (u v : Value) (n : Nat) (b d : Bk) (L : List Ac) (R : List (Nat × Obj)) : Prop where
  os : ∃ base F, OS w base (.pointer (some ⟨M, 0, none⟩)) s L F X P b u Y Q d v R ∧ w0.heap.size ≤ base ∧ base ≤ w.heap.size
  bel : Below w0.heap.size w0 w
  oi : OI P Q b d (wordOf L)
  len : L.length ≤ n
  ps : P.s = s
  c1 : ∀ x ∈ P.W, x.c < 8
  c2 : ∀ x ∈ Q.W, x.c < 8
theorem OW.later {w0 w w' : World} {M X Y s : Nat} {P Q : Bp} {u v : Value} {n : Nat} {b d : Bk} {L : List Ac} {R : List (Nat × Obj)} (h : OW w0 w M X Y s P Q u v n b d L R) (hb : Below w.heap.size w w') : OW w0 w' M X Y s P Q u v n b d L R := by
  obtain ⟨base, F, ho, h1, h2⟩ := h.os
  exact ⟨⟨base, F, ⟨ho.x.below hb, ho.y.below hb, ho.ne, ho.xv, ho.yu, fun z hz => ⟨row_on (ho.kept z hz).1 hb, (ho.kept z hz).2⟩⟩, h1, Nat.le_trans h2 hb.size⟩, below_then h.bel hb, h.oi, h.len, h.ps, h.c1, h.c2⟩
theorem OW.row {w0 w : World} {M X Y s : Nat} {P Q : Bp} {u v : Value} {n : Nat} {b d : Bk} {L : List Ac} {R : List (Nat × Obj)} (h : OW w0 w M X Y s P Q u v n b d L R) : ∀ z ∈ R, w.heap[z.1]? = some z.2 := fun z hz => by
  obtain ⟨base, F, ho, h1, h2⟩ := h.os
  exact (ho.kept z hz).1
theorem OW.mono {w0 w : World} {M X Y s : Nat} {P Q : Bp} {u v : Value} {n : Nat} {b d : Bk} {L : List Ac} {R : List (Nat × Obj)} (h : OW w0 w M X Y s P Q u v n b d L R) {n' : Nat} (hn : n ≤ n') : OW w0 w M X Y s P Q u v n' b d L R := ⟨h.os, h.bel, h.oi, Nat.le_trans h.len hn, h.ps, h.c1, h.c2⟩
theorem ho_old {P Q : Bp} (h : Oq P Q) (L : List Ac) : HO P L := fun k hk => by
  obtain ⟨h1, h2, _⟩ := hk
  rw [h.st1] at h2
  omega
theorem ho_new {P Q : Bp} {b d : Bk} {L : List Ac} (h : OI P Q b d (wordOf L)) (h0 : b.nx = 0) : HO Q L := fun k hk => by
  obtain ⟨h1, h2, _⟩ := hk
  rw [h.o.st2] at h2
  obtain rfl : k = 1 := by omega
  have hhd : hdB Q 1 = hdB P 1 := by unfold hdB; rw [h.o.s]
  rw [hhd, over1, h.h1, if_pos h0]
  rfl
theorem nextBL_stW {c r : Nat} {P : Bp} {b : Bk} {L : List Ac} {t : Int} (hk : BkOk P b) (hg : goesB c r P b = true) : wordOf (nextBL c r P b L t) = stW P b (wordOf L) := by
  rw [nextBL_word hk]
  unfold stW
  cases hl : ldB b
  · rw [if_pos ⟨hg, rfl⟩]; rfl
  · rw [if_neg (by simp)]; rfl
theorem kept_next {w w' : World} {X Y : Nat} {F F' : List Nat} {R : List (Nat × Obj)} (h : ∀ z ∈ R, w.heap[z.1]? = some z.2 ∧ z.1 ≠ X ∧ z.1 ≠ Y ∧ z.1 ∉ F) (hn : Next (X :: F) (X :: F') w w') : ∀ z ∈ R, w'.heap[z.1]? = some z.2 ∧ z.1 ≠ X ∧ z.1 ≠ Y ∧ z.1 ∉ F' := fun z hz => by
  obtain ⟨h1, h2, h3, h4⟩ := h z hz
  have ho : z.1 ∉ X :: F := fun e => by
    rcases List.mem_cons.1 e with e | e
    · exact h2 e
    · exact h4 e
  refine ⟨by rw [hn.1.block _ (heap_lt h1) ho]; exact h1, h2, h3, fun e => ?_⟩
  rcases hn.2 _ (List.mem_cons_of_mem _ e) with h5 | h5
  · exact ho h5
  · have := heap_lt h1; omega
theorem ow_old {w0 w : World} {M X Y s : Nat} {P Q : Bp} {u v : Value} {n : Nat} {b d : Bk} {L : List Ac} {R : List (Nat × Obj)} (h : OW w0 w M X Y s P Q u v n b d L R) (hn : n < 3298534883328) :
    Calls Try.prog 15 #[.pointer (some ⟨X, 0, none⟩), .pointer (some ⟨M, 0, none⟩), .int .i64 1] w fun e w' => (∃ k y, e = .returned (.agg #[.int .i64 k, .int .i64 0, .int .i64 0, .bool y])) ∧ ∃ b' L', OW w0 w' M X Y s P Q u v (n + 1) b' d L' R ∧ mB P b' ≤ mB P b - 1 ∧ (b.nx = 0 → b' = b) := by
  obtain ⟨base, F, ho, hlo, hsz⟩ := h.os
  have hl := h.len
  refine (bstep ho.x h.oi.bk hsz (by omega) 1).mono ?_
  rintro e w' ⟨rfl, F', hx, hnx⟩
  have hgo : goesB 8 s P b = true ↔ b.nx ≠ 0 := by rw [goesB_iff]; exact ⟨fun q => q.1, fun q => ⟨q, h.ps.symm, h.c1⟩⟩
  have hbel : Below w0.heap.size w0 w' := h.bel.trans (hnx.below h.bel.size (fun q hq => by have := (ho.x.lt q hq).1; omega))
  refine ⟨⟨_, _, rfl⟩, nextBk 8 s P b L, nextBL 8 s P b L 1, ⟨⟨base, F', ⟨hx, ho.y.beside hx.mem hnx (Ne.symm ho.ne) ho.xv, ho.ne, ho.xv, ho.yu, kept_next ho.kept hnx⟩, hlo, Nat.le_trans hsz hnx.1.size⟩, hbel, ?_, Nat.le_trans nextBL_len (by omega), h.ps, h.c1, h.c2⟩, ?_, ?_⟩
  · by_cases h0 : b.nx = 0
    · have hg : ¬ goesB 8 s P b = true := fun e => hgo.mp e h0
      unfold nextBk nextBL
      rw [if_neg hg, if_neg hg]
      exact h.oi
    · have hg := hgo.mpr h0
      rw [nextBL_stW h.oi.bk hg]
      unfold nextBk
      rw [if_pos hg]
      exact oi_old h.oi h0
  · by_cases h0 : b.nx = 0
    · have hg : ¬ goesB 8 s P b = true := fun e => hgo.mp e h0
      have hm : mB P b = 0 := by unfold mB; rw [if_pos h0]
      unfold nextBk
      rw [if_neg hg, hm]
      simp
    · have hg := hgo.mpr h0
      have := (end_step h.oi.bk (ho_old h.oi.o L) hg).2
      unfold nextBk
      rw [if_pos hg]
      omega
  · intro h0
    have hg : ¬ goesB 8 s P b = true := fun e => hgo.mp e h0
    unfold nextBk
    rw [if_neg hg]
theorem ow_new {w0 w : World} {M X Y s : Nat} {P Q : Bp} {u v : Value} {n : Nat} {b d : Bk} {L : List Ac} {R : List (Nat × Obj)} (h : OW w0 w M X Y s P Q u v n b d L R) (hn : n < 3298534883328) :
    Calls Try.prog 15 #[.pointer (some ⟨Y, 0, none⟩), .pointer (some ⟨M, 0, none⟩), .int .i64 2] w fun e w' => (∃ k y, e = .returned (.agg #[.int .i64 k, .int .i64 0, .int .i64 0, .bool y])) ∧ ∃ d' L', OW w0 w' M X Y s P Q u v (n + 1) b d' L' R ∧ (b.nx = 0 → mB Q d' ≤ mB Q d - 1) := by
  obtain ⟨base, F, ho, hlo, hsz⟩ := h.os
  have hl := h.len
  have hqs : Q.s = s := by rw [h.oi.o.s]; exact h.ps
  refine (bstep ho.y h.oi.dk hsz (by omega) 2).mono ?_
  rintro e w' ⟨rfl, F', hy, hnx⟩
  have hgo : goesB 8 s Q d = true ↔ d.nx ≠ 0 := by rw [goesB_iff]; exact ⟨fun q => q.1, fun q => ⟨q, hqs.symm, h.c2⟩⟩
  have hbel : Below w0.heap.size w0 w' := h.bel.trans (hnx.below h.bel.size (fun q hq => by have := (ho.y.lt q hq).1; omega))
  have hkn := kept_next (X := Y) (Y := X) (fun z hz => ⟨(ho.kept z hz).1, (ho.kept z hz).2.2.1, (ho.kept z hz).2.1, (ho.kept z hz).2.2.2⟩) hnx
  refine ⟨⟨_, _, rfl⟩, nextBk 8 s Q d L, nextBL 8 s Q d L 2, ⟨⟨base, F', ⟨ho.x.beside hy.mem hnx ho.ne ho.yu, hy, ho.ne, ho.xv, ho.yu, fun z hz => ⟨(hkn z hz).1, (hkn z hz).2.2.1, (hkn z hz).2.1, (hkn z hz).2.2.2⟩⟩, hlo, Nat.le_trans hsz hnx.1.size⟩, hbel, ?_, Nat.le_trans nextBL_len (by omega), h.ps, h.c1, h.c2⟩, ?_⟩
  · by_cases h0 : d.nx = 0
    · have hg : ¬ goesB 8 s Q d = true := fun e => hgo.mp e h0
      unfold nextBk nextBL
      rw [if_neg hg, if_neg hg]
      exact h.oi
    · have hg := hgo.mpr h0
      rw [nextBL_stW h.oi.dk hg]
      unfold nextBk
      rw [if_pos hg]
      exact oi_new h.oi h0
  · intro hb0
    by_cases h0 : d.nx = 0
    · have hg : ¬ goesB 8 s Q d = true := fun e => hgo.mp e h0
      have hm : mB Q d = 0 := by unfold mB; rw [if_pos h0]
      unfold nextBk
      rw [if_neg hg, hm]
      simp
    · have hg := hgo.mpr h0
      have := (end_step h.oi.dk (ho_new h.oi hb0) hg).2
      unfold nextBk
      rw [if_pos hg]
      omega
theorem ow_peek {w0 w : World} {M X Y s : Nat} {P Q : Bp} {u v : Value} {n : Nat} {b d : Bk} {L : List Ac} {R : List (Nat × Obj)} (h : OW w0 w M X Y s P Q u v n b d L R) (a : Ad) (ha : isAd 8 s a = true) :
    Calls Try.prog 23 #[.pointer (some ⟨M, 0, none⟩), .agg #[.int .i64 a.k, .int .i64 a.i, .int .i64 a.j]] w fun e w' => e = .returned (.tuple #[.int .i64 (wordOf L a), .int .i64 0]) ∧ OW w0 w' M X Y s P Q u v n b d L R := by
  obtain ⟨base, F, ho, hlo, hsz⟩ := h.os
  have := peek_any ho.x.mem a
  rw [if_pos ha, if_pos ha] at this
  refine Calls.mono this ?_
  rintro e w' ⟨rfl, hb⟩
  exact ⟨rfl, h.later hb⟩
theorem ow_left {w0 w : World} {M X Y s : Nat} {P Q : Bp} {u v : Value} {n : Nat} {b d : Bk} {L : List Ac} {R : List (Nat × Obj)} (h : OW w0 w M X Y s P Q u v n b d L R) :
    Calls Try.prog 18 #[.pointer (some ⟨Y, 0, none⟩)] w fun e w' => e = .returned (.int .i64 ((Q.W.length : Int) - (d.wr : Int))) ∧ OW w0 w' M X Y s P Q u v n b d L R := by
  obtain ⟨base, F, ho, hlo, hsz⟩ := h.os
  obtain ⟨a, cap, hl⟩ := ho.y.slice
  refine (bleft_any ho.y.row hl h.oi.dk.p.len h.oi.dk.wr).mono ?_
  rintro e w' ⟨rfl, hb⟩
  exact ⟨rfl, h.later hb⟩
theorem ow_sig1 {w0 w : World} {M X Y s : Nat} {P Q : Bp} {u v : Value} {n : Nat} {b d : Bk} {L : List Ac} {R : List (Nat × Obj)} (h : OW w0 w M X Y s P Q u v n b d L R) :
    Calls Try.prog 17 #[.pointer (some ⟨X, 0, none⟩)] w fun e w' => e = .returned (Sg.sv P.sg) ∧ OW w0 w' M X Y s P Q u v n b d L R := by
  obtain ⟨base, F, ho, hlo, hsz⟩ := h.os
  refine (bsig_any ho.x.row (by rw [h.oi.bk.p.sg]; exact sgOf_ok _)).mono ?_
  rintro e w' ⟨rfl, hb⟩
  exact ⟨rfl, h.later hb⟩
theorem ow_sig2 {w0 w : World} {M X Y s : Nat} {P Q : Bp} {u v : Value} {n : Nat} {b d : Bk} {L : List Ac} {R : List (Nat × Obj)} (h : OW w0 w M X Y s P Q u v n b d L R) :
    Calls Try.prog 17 #[.pointer (some ⟨Y, 0, none⟩)] w fun e w' => e = .returned (Sg.sv Q.sg) ∧ OW w0 w' M X Y s P Q u v n b d L R := by
  obtain ⟨base, F, ho, hlo, hsz⟩ := h.os
  refine (bsig_any ho.y.row (by rw [h.oi.dk.p.sg]; exact sgOf_ok _)).mono ?_
  rintro e w' ⟨rfl, hb⟩
  exact ⟨rfl, h.later hb⟩
/-- What the law asks behind each turn. -/
theorem ow_asks1 {w0 w : World} {M X Y s : Nat} {P Q : Bp} {u v : Value} {n : Nat} {b d : Bk} {L : List Ac} {R : List (Nat × Obj)} (h : OW w0 w M X Y s P Q u v n b d L R) (h5 : wordOf L (hdB Q 2) = 5) : wordOf L (hdB P 1) = 3 := by
  have hd0 : d.nx = 0 := by
    by_cases e : d.nx = 0
    · exact e
    · exact absurd h5 (h.oi.h2 e)
  have hb0 := h.oi.y6 (h.oi.dk.n8 (Or.inr hd0))
  rw [h.oi.h1, if_pos hb0]
theorem ow_asks2 {w0 w : World} {M X Y s : Nat} {P Q : Bp} {u v : Value} {n : Nat} {b d : Bk} {L : List Ac} {R : List (Nat × Obj)} (h : OW w0 w M X Y s P Q u v n b d L R) (h3 : wordOf L (hdB P 1) ≠ 3) : d.wr = 0 ∨ Apt P Q := by
  by_cases hw0 : d.wr = 0
  · exact Or.inl hw0
  · have hdn := h.oi.dk.nx
    have h7 : d.nx = 6 ∨ d.nx = 7 ∨ d.nx = 8 ∨ d.nx = 0 := by
      have hea := h.oi.dk.early
      by_cases hq : d.nx = 1 ∨ d.nx = 2 ∨ d.nx = 3 ∨ d.nx = 4 ∨ d.nx = 5
      · exact absurd (hea hq) hw0
      · omega
    rcases h.oi.y7 h7 with h0 | h0
    · exact absurd (by rw [h.oi.h1, if_pos h0]) h3
    · exact Or.inr h0
theorem apt_meet {P Q : Bp} (ho : Oq P Q) (h : Apt P Q) : (!(Sg.meet P.sg Q.sg == Sg.nought)) = false := by
  have hp : Sg.Ok P.sg := by rw [ho.p.sg]; exact sgOf_ok _
  have hq : Sg.Ok Q.sg := by rw [ho.q.sg]; exact sgOf_ok _
  have : Sg.meet P.sg Q.sg = Sg.nought := Sg.sig_ext (Sg.ok_meet hp hq) Sg.ok_nought fun k hk => by
    rw [Sg.bit_meet hp hq, Sg.bit_nought]
    unfold Sg.bit
    rw [← Nat.testBit_and, h (k / 64) (by omega)]
    simp
  rw [this]
  rfl
/-- In the end. -/
theorem ow_cell {w0 w : World} {M X Y s : Nat} {P Q : Bp} {u v : Value} {n : Nat} {b d : Bk} {L : List Ac} {R : List (Nat × Obj)} (h : OW w0 w M X Y s P Q u v n b d L R) (hb : b.nx = 0) (hd : d.nx = 0) (c : Int) : wordOf L ⟨4, c, 0⟩ = (lastW Q.W c).getD ((lastW P.W c).getD 0) := by
  have h1 := h.oi.bk.late (by omega)
  have h2 := h.oi.dk.late (by omega)
  rw [h.oi.cells c, h1, h2, List.take_length, List.take_length]
theorem oi_start {P Q : Bp} (ho : Oq P Q) : OI P Q (bkNew P true) (bkNew Q true) (wordOf []) := by
  have hs := ho.s2
  have hss := ho.s
  refine ⟨ho, bk_new ho.p true, bk_new ho.q true, by simp [bkNew, ho.st1], ?_, fun j hj => by simp [bkNew] at hj, fun e => by simp [bkNew] at e, fun e => by simp [bkNew] at e, fun e => ?_, fun e => by simp [bkNew] at e, fun _ => ?_, fun c => ?_⟩
  · rw [wordOf_nil]
    simp [bkNew, first, hdB]
  · simp [bkNew, ho.st2] at e
    omega
  · rw [wordOf_nil]
    simp [first, hdB]
  · rw [wordOf_nil]
    simp [bkNew, lastW, first]
end Go.Proofs.Ytbmmicfdnfpcaaa
