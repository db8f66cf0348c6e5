/- The document's machine of layer 8: Start and Step. -/
import Derived.Test.YtfbbcjlbelnfaaaCqH
import Derived.Test.YtfbbcjlbelnfaaaJRefCMemN
namespace Go.Proofs.Ytfbbcjlbelnfaaa
open Go.ChangeShapes Go.WideShapes Go.ChangeAt Go.RowKit
attribute [local go_sem ↓] Go.wp_at_zero Go.wp_at_succ

theorem knext_any {w : World} {Y : Nat} {P : Cp} {l : List Int} {a : Option Addr} {cap : Nat} (h : KL w Y P l a cap) (hk : LKk P l) (hp : POk P) :
    Calls Try.prog 76 #[.pointer (some ⟨Y, 3, none⟩)] w fun e w' => e = .returned (.agg (planK P (runK P l))) ∧ Below w.heap.size w w' := by
  by_cases hl : l = []
  · subst hl; exact knext_nil h
  · by_cases hn : P.rd = Sg.nought ∨ l.getD 0 0 ≤ P.z
    · exact knext_low h hk hp hl hn
    · by_cases hf : farV P (l.getD 0 0) = true
      · exact knext_far h hk hp hl hn hf
      · exact knext_go h hk hp hl hn (by simpa using hf)
def numK (l : List Int) : List Value := l.map (Value.int .i64)
/-- The document's machine, with the loads that it keeps. -/
structure RK' (w : World) (base Y : Nat) (P : Cp) (l : List Int) (G : List Nat) (v : Value) : Prop where
  m : w.heap[Y]? = some (.cells (rmC P v) 98 (0, 0))
  own : w.ownsRow base 2 1 v l.length (numK l)
  G : G = Y :: v.ownBlock.toList
  bY : base ≤ Y
def RK (w : World) (base Y : Nat) (P : Cp) (l : List Int) (G : List Nat) : Prop := ∃ v, RK' w base Y P l G v
theorem RK.lt {w : World} {base Y : Nat} {P : Cp} {l : List Int} {G : List Nat} (h : RK w base Y P l G) : ∀ b ∈ G, base ≤ b ∧ b < w.heap.size := by
  obtain ⟨v, h⟩ := h
  intro b hb
  rw [h.G] at hb
  simp only [List.mem_cons, Option.mem_toList] at hb
  rcases hb with rfl | hb
  · exact ⟨h.bY, heap_lt h.m⟩
  · exact own_block h.own b (by simpa using hb)
theorem RK.keep {w w' : World} {base Y : Nat} {P : Cp} {l : List Int} {F G : List Nat} (h : RK w base Y P l G) (k : Keep F w w') (hd : ∀ b ∈ G, b ∉ F) : RK w' base Y P l G := by
  obtain ⟨v, h⟩ := h
  have hG := h.G
  refine ⟨v, ?_, own_keep h.own k (fun b hb => hd b ?_), h.G, h.bY⟩
  · rw [k.block _ (heap_lt h.m) (hd _ (by rw [hG]; simp))]; exact h.m
  · rw [hG, hb]; simp
theorem RK.below {w w' : World} {base Y : Nat} {P : Cp} {l : List Int} {G : List Nat} (h : RK w base Y P l G) (k : Below w.heap.size w w') : RK w' base Y P l G := h.keep (Keep.of_below k []) (fun _ _ => by simp)
theorem RK.kl {w : World} {base Y : Nat} {P : Cp} {l : List Int} {G : List Nat} (h : RK w base Y P l G) : ∃ a cap, KL w Y P l a cap := by
  obtain ⟨v, h⟩ := h
  obtain ⟨a, cap, rfl⟩ := own_slice h.own
  refine ⟨a, cap, h.m, ?_⟩
  by_cases h0 : l = []
  · exact Or.inl h0
  · obtain ⟨g, cap', e, _, hg⟩ := h.own.form (by have := List.length_pos_iff.2 h0; omega)
    simp at e
    obtain ⟨rfl, rfl⟩ := e
    refine Or.inr ⟨g, rfl, hg, fun i hi => ?_⟩
    refine own_cells h.own i _ ?_
    simp [numK, hi]
theorem rk_next {w : World} {base Y : Nat} {P : Cp} {l : List Int} {G : List Nat} (h : RK w base Y P l G) (hk : LKk P l) (hp : POk P) {w' : World} (hb : Below w.heap.size w w') :
    Calls Try.prog 76 #[.pointer (some ⟨Y, 3, none⟩)] w' fun e w'' => e = .returned (.agg (planK P (runK P l))) ∧ Below w'.heap.size w' w'' := by
  obtain ⟨a, cap, hkl⟩ := (h.below hb).kl
  exact knext_any hkl hk hp
theorem thrB_iff {b : Ck} : thrB b = true ↔ thr b := by unfold thrB thr; simp
theorem plan8 {w : World} {B : Nat} {c0 c1 c2 c3 c4 c5 c6 c7 : Value} (h : w.heap[B]? = some (.cells #[c0, c1, c2, c3, c4, c5, c6, c7] 148 (0, 0))) :
    w.cell? ⟨B, 0, none⟩ = some c0 ∧ w.cell? ⟨B, 1, none⟩ = some c1 ∧ w.cell? ⟨B, 2, none⟩ = some c2 ∧ w.cell? ⟨B, 3, none⟩ = some c3 ∧ w.cell? ⟨B, 4, none⟩ = some c4 ∧ w.cell? ⟨B, 5, none⟩ = some c5 ∧ w.cell? ⟨B, 6, none⟩ = some c6 ∧ w.cell? ⟨B, 7, none⟩ = some c7 := cells8 h
set_option maxRecDepth 10000 in
theorem rkstart_any {w : World} {base Y : Nat} {P : Cp} {l : List Int} {G : List Nat} (h : RK w base Y P l G) (hk : LKk P l) (hp : POk P) :
    Calls Try.prog 56 #[.pointer (some ⟨Y, 3, none⟩)] w fun e w' => e = .returned (.tuple #[.int .i64 (if (runK P l).st = 4 then (runK P l).comp else 0), .int .i64 (if (runK P l).st = 4 then (runK P l).seen else 0), .bool (decide ((runK P l).st = 4))]) ∧ Below w.heap.size w w' := by
  have HN : Hid (∀ w' : World, Below w.heap.size w w' → Calls Try.prog 76 #[.pointer (some ⟨Y, 3, none⟩)] w' fun e w'' => e = .returned (.agg (planK P (runK P l))) ∧ Below w'.heap.size w' w'') := fun w' hb => rk_next h hk hp hb
  have hok := hk.all
  unfold planK at HN
  generalize runK P l = b at *
  generalize (plK P b).k = ak at *
  generalize (plK P b).i = ai at *
  generalize (plK P b).j = aj at *
  generalize (if b.st = 1 then b.stamp else 0) = ls at *
  clear h hk
  by_cases e4 : b.st = 4
  · have ht : thrB b = true := by unfold thrB; rw [decide_eq_true e4]; rfl
    have he : b.err = 0 := by
      rcases hok.c with ⟨rfl, _⟩ | ⟨c, _⟩ | ⟨c, _⟩ | ⟨c, _⟩ | ⟨_, _, e⟩ | ⟨c, _⟩
      · rfl
      · omega
      · omega
      · omega
      · exact e
      · omega
    rw [if_pos e4, if_pos e4, ht, he] at HN
    rw [if_pos e4, if_pos e4, decide_eq_true e4]
    clear hok e4 ht he
    go_enter Try.func56, Try.ntmps56
    go_wp2_with fail
    refine (HN.out _ (Below.refl _ _)).mono ?_
    rintro e w1 ⟨rfl, hb1⟩
    have HB1 : Hid (Below w.heap.size w w1) := hb1
    clear hb1
    go_wp2
    first | (go_ret3; exact ⟨rfl, below_alloc HB1.out _⟩) | (go_quiet (fail); go_wp2; go_ret3; exact ⟨rfl, below_drawn (below_alloc HB1.out _) _⟩)
  · rw [if_neg e4, if_neg e4] at HN
    rw [if_neg e4, if_neg e4, decide_eq_false e4]
    by_cases e5 : b.st = 5
    · have ht : thrB b = true := by unfold thrB; rw [decide_eq_true e5, Bool.or_true]
      have he : (b.err == 0) = false := by
        rcases hok.c with ⟨rfl, _⟩ | ⟨c, _⟩ | ⟨c, _⟩ | ⟨c, _⟩ | ⟨c, _⟩ | ⟨_, _, e⟩
        · simp [ckNew] at e5
        · omega
        · omega
        · omega
        · omega
        · rw [beq_eq_false_iff_ne]; omega
      have hen : (b.err != 0) = true := by rw [bne, he]; rfl
      rw [ht] at HN
      clear hok e4 e5 ht
      go_enter Try.func56, Try.ntmps56
      go_wp2_with fail
      refine (HN.out _ (Below.refl _ _)).mono ?_
      rintro e w1 ⟨rfl, hb1⟩
      have HB1 : Hid (Below w.heap.size w w1) := hb1
      clear hb1
      go_wp2
      first | (go_ret3; exact ⟨rfl, below_alloc HB1.out _⟩) | (go_quiet (fail); go_wp2; go_ret3; exact ⟨rfl, below_drawn (below_alloc HB1.out _) _⟩)
    · have ht : thrB b = false := by unfold thrB; rw [decide_eq_false e4, decide_eq_false e5]; rfl
      rw [ht] at HN
      clear hok e4 e5 ht
      go_enter Try.func56, Try.ntmps56
      go_wp2_with fail
      refine (HN.out _ (Below.refl _ _)).mono ?_
      rintro e w1 ⟨rfl, hb1⟩
      have HB1 : Hid (Below w.heap.size w w1) := hb1
      clear hb1
      go_wp2
      first | (go_ret3; exact ⟨rfl, below_alloc HB1.out _⟩) | (go_quiet (fail); go_wp2; go_ret3; exact ⟨rfl, below_drawn (below_alloc HB1.out _) _⟩)


theorem RefAt.ring8 {w : World} {base R : Nat} {c r : Nat} {L : List Ac} {F : List Nat} (h : RefAt w base (.pointer (some ⟨R, 0, none⟩)) c r L F) : w.cell? ⟨R, 1, none⟩ = some (.int .i64 (r : Int)) := by
  obtain ⟨R', v, h⟩ := h
  obtain rfl : R = R' := by simpa using h.p
  rw [cell_at h.m]; rfl
set_option maxRecDepth 10000 in
theorem rkstep_none {w : World} {base Y : Nat} {P : Cp} {q : Value} {c r : Nat} {L : List Ac} {l : List Int} {K G : List Nat} (hr : RefAt w base q c r L K) (h : RK w base Y P l G) (hk : LKk P l) (hp : POk P) (hn : goesK r P (runK P l) = false) (t : Int) :
    Calls Try.prog 55 #[.pointer (some ⟨Y, 3, none⟩), q, .int .i64 t] w fun e w' => e = .returned (.tuple #[.int .i64 0, .int .i64 0]) ∧ Below w.heap.size w w' := by
  have HN : Hid (∀ w' : World, Below w.heap.size w w' → Calls Try.prog 76 #[.pointer (some ⟨Y, 3, none⟩)] w' fun e w'' => e = .returned (.agg (planK P (runK P l))) ∧ Below w'.heap.size w' w'') := fun w' hb => rk_next h hk hp hb
  obtain ⟨a, cap, hkl⟩ := h.kl
  have y0 := hkl.cells.1
  have hY : Y < w.heap.size := heap_lt hkl.m
  obtain ⟨R, rfl⟩ := hr.ptr
  have r1 := hr.ring8
  have hR : R < w.heap.size := World.block_lt_of_cell? _ _ r1
  unfold planK at HN
  have hth : thrB (runK P l) = true ∨ (thrB (runK P l) = false ∧ r ≠ P.s) := by
    by_cases e : thrB (runK P l) = true
    · exact Or.inl e
    · refine Or.inr ⟨by simpa using e, fun er => ?_⟩
      have : goesK r P (runK P l) = true := goesK_iff.mpr ⟨fun ht => e (thrB_iff.mpr ht), er⟩
      rw [this] at hn; simp at hn
  generalize runK P l = b at *
  generalize (plK P b).k = ak at *
  generalize (plK P b).i = ai at *
  generalize (plK P b).j = aj at *
  generalize (if b.st = 1 then b.stamp else 0) = ls at *
  generalize (if b.st = 4 then b.comp else 0) = cc at *
  generalize (if b.st = 4 then b.seen else 0) = ss at *
  clear h hk hr hkl hn
  rcases hth with e | ⟨e, hne⟩
  · rw [e] at HN
    go_enter Try.func55, Try.ntmps55
    go_wp2_with fail
    refine (HN.out _ (Below.refl _ _)).mono ?_
    rintro e w1 ⟨rfl, hb1⟩
    have HB1 : Hid (Below w.heap.size w w1) := hb1
    have y0' := cell_later hb1 hY y0
    have r1' := cell_later hb1 hR r1
    have hY1 := Nat.lt_of_lt_of_le hY hb1.size
    have hR1 := Nat.lt_of_lt_of_le hR hb1.size
    clear hb1 y0 r1
    go_wp2
    first | (go_ret2; exact ⟨rfl, below_alloc HB1.out _⟩) | (go_quiet (fail); go_wp2; go_ret2; exact ⟨rfl, below_drawn (below_alloc HB1.out _) _⟩)
  · rw [e] at HN
    have hq : ((r : Int) == (P.s : Int)) = false := by rw [beq_eq_false_iff_ne]; omega
    have hq2 : ((r : Int) != (P.s : Int)) = true := by rw [bne, hq]; rfl
    clear hne
    go_enter Try.func55, Try.ntmps55
    go_wp2_with fail
    refine (HN.out _ (Below.refl _ _)).mono ?_
    rintro e w1 ⟨rfl, hb1⟩
    have HB1 : Hid (Below w.heap.size w w1) := hb1
    have y0' := cell_later hb1 hY y0
    have r1' := cell_later hb1 hR r1
    have hY1 := Nat.lt_of_lt_of_le hY hb1.size
    have hR1 := Nat.lt_of_lt_of_le hR hb1.size
    clear hb1 y0 r1
    go_wp2
    first | (go_ret2; exact ⟨rfl, below_alloc HB1.out _⟩) | (go_quiet (fail); go_wp2; go_ret2; exact ⟨rfl, below_drawn (below_alloc HB1.out _) _⟩)
/-- The document's machine beside its memory. -/
structure RKM (w : World) (base : Nat) (q : Value) (c : Nat) (L : List Ac) (K : List Nat) (Y : Nat) (P : Cp) (l : List Int) (G : List Nat) : Prop where
  ref : RefAt w base q c P.s L K
  rk : RK w base Y P l G
  apart : ∀ b ∈ G, b ∉ K
theorem RKM.below {w w' : World} {base : Nat} {q : Value} {c : Nat} {L : List Ac} {K : List Nat} {Y : Nat} {P : Cp} {l : List Int} {G : List Nat} (h : RKM w base q c L K Y P l G) (hb : Below w.heap.size w w') : RKM w' base q c L K Y P l G :=
  ⟨h.ref.below hb, h.rk.below hb, h.apart⟩
theorem RKM.onRef {w w' : World} {base : Nat} {q : Value} {c : Nat} {L L' : List Ac} {K K' : List Nat} {Y : Nat} {P : Cp} {l : List Int} {G : List Nat} (h : RKM w base q c L K Y P l G) (hr : RefAt w' base q c P.s L' K') (hn : Next K K' w w') : RKM w' base q c L' K' Y P l G :=
  ⟨hr, h.rk.keep hn.1 h.apart, fun b hb hk => by
    rcases hn.2 b hk with h1 | h1
    · exact h.apart b hb h1
    · have := (h.rk.lt b hb).2; omega⟩
theorem RKM.onRk {w w' : World} {base : Nat} {q : Value} {c : Nat} {L : List Ac} {K : List Nat} {Y : Nat} {P : Cp} {l l' : List Int} {G G' : List Nat} (h : RKM w base q c L K Y P l G) (hr : RK w' base Y P l' G') (hn : Next G G' w w') : RKM w' base q c L K Y P l' G' :=
  ⟨h.ref.keep hn.1 (fun b hb hg => h.apart b hg hb), hr, fun b hb hk => by
    rcases hn.2 b hb with h1 | h1
    · exact h.apart b h1 hk
    · have := (h.ref.lt b hk).2; omega⟩
theorem rk_end {w X w1 : World} {base Y gg cap' n : Nat} {P : Cp} {v : Value} {l : List Int} {G : List Nat} {z : Int} (h : RK' w base Y P l G v) (kX : Keep [] w X) (hn : l.length = n)
    (hown1 : w1.ownsRow base 2 1 (.slice (some ⟨gg, 0, none⟩) (n + 1) cap') (n + 1) (numK l ++ [.int .i64 z])) (hgrow : X.grownBy w1 v.ownBlock) (hat : v.ownBlock = some gg ∨ w.heap.size ≤ gg) :
    ∃ G', RK (w1.setCell ⟨Y, 14, none⟩ (.slice (some ⟨gg, 0, none⟩) (n + 1) cap')) base Y P (l ++ [z]) G' ∧ Next G G' w (w1.setCell ⟨Y, 14, none⟩ (.slice (some ⟨gg, 0, none⟩) (n + 1) cap')) := by
  have k0 : Keep v.ownBlock.toList w w1 := (kX.mono (fun b hb => by simp at hb)).grown hgrow (fun b hb => Or.inl (by rw [hb]; simp))
  have hm1 : w1.heap[Y]? = some (.cells (rmC P v) 98 (0, 0)) := by
    rw [k0.block _ (heap_lt h.m) (fun hm => own_ne h.own h.m (by decide) (by simpa using hm))]; exact h.m
  have hg1 : (Value.slice (some ⟨gg, 0, none⟩) (n + 1) cap').ownBlock ≠ some Y := own_ne hown1 hm1 (by decide)
  have kset : Keep [Y] w1 (w1.setCell ⟨Y, 14, none⟩ (.slice (some ⟨gg, 0, none⟩) (n + 1) cap')) := (Keep.refl _ _).setCell _ _ (Or.inl (by simp))
  refine ⟨_, ⟨.slice (some ⟨gg, 0, none⟩) (n + 1) cap', ?_, ?_, rfl, h.bY⟩, ?_, ?_⟩
  · rw [heap_set hm1]; rfl
  · have e : numK (l ++ [z]) = numK l ++ [.int .i64 z] := by simp [numK]
    rw [e, List.length_append, hn]
    exact own_keep hown1 kset (fun b hb hm => by simp at hm; subst hm; exact hg1 hb)
  · rw [h.G]
    exact (k0.mono (fun b hb => by simp at hb ⊢; exact Or.inr hb)).trans kset (fun b hb => by simp at hb; subst hb; exact Or.inl (by simp))
  · intro b hb
    rw [h.G]
    simp only [List.mem_cons, Option.mem_toList] at hb ⊢
    rcases hb with rfl | hb
    · simp
    · have hb' : gg = b := by simpa [Value.ownBlock] using hb
      subst hb'
      rcases hat with e | e
      · left; right; exact e
      · exact Or.inr e
theorem info_num8 : (Try.prog.info? 2).map (fun i => (i.zero, i.size, i.bytes)) = some (some (.int .i64 0), 1, 8) := by kernel_rfl

end Go.Proofs.Ytfbbcjlbelnfaaa
