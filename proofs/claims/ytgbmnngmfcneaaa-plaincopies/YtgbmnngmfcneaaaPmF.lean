/- A chain's add and del: the document's. -/
import Derived.Test.YtgbmnngmfcneaaaPmE
namespace Go.Proofs.Ytgbmnngmfcneaaa.Pl
open Go.ChangeShapes Go.WideShapes Go.ChangeAt Go.RowKit
attribute [local go_sem ↓] Go.wp_at_zero Go.wp_at_succ

theorem take_ins {α : Type} (l : List α) (i : Nat) (x : α) : l.take i ++ [x] ++ l.drop i = ins l i x := by unfold ins; simp
theorem ge_yes {a b : Int} (h : b ≤ a) : decide (b ≤ a) = true := by simpa using h
theorem bel_grown {w w1 w2 : World} {base n : Nat} {e k : Nat} {v : Value} {xs : List Value} (h : Below w.heap.size w w1) (ho : w1.ownsRow w.heap.size e k v n xs) (hg : w1.grownBy w2 v.ownBlock) (_ : base = base) : Below w.heap.size w w2 :=
  h.grown hg h.size (fun b hb => (own_block ho b hb).1)
set_option maxRecDepth 100000 in
set_option maxHeartbeats 4000000 in
theorem keys_any {w : World} {B g o : Nat} {L : List Value} {c : Co} {v p : Value} {a : List Int} (call : Int) (h : ShAt w B g o L c v p) (ha : ∀ x ∈ a, Sx x) (hcall : call = 1 ∨ call = 4) (hk : c.kd = 4) (hB : B ≤ w.heap.size) : Calls Try.prog 50 #[.pointer (some ⟨g, o, none⟩), .int .i64 c.cap, .int .i64 call, .int .i64 (nth a 0), .int .i64 (lb c.vs (nth a 0) : Int), .bool (thB c.vs (nth a 0))] w (Dod w B g o L v p (chaV c call a)) := by
  have hok : CoOk (chaV c call a).2 := h.ok.cha hk call ha
  obtain ⟨h0, h2, h3⟩ := h.cells
  have hf := h.frozen (o + 1)
  have hvm := h.ok.vm
  have hc16 := h.ok.c16
  have hvn : c.vs.length ≤ 16 := by omega
  obtain ⟨a1, k1, rfl⟩ := own_slice h.hv
  have H : Hid (ShAt w B g o L c (.slice a1 c.vs.length k1) p) := h
  have hgl := heap_lt h.hg
  obtain ⟨i0, hi, hz0, hz1, hz2⟩ := info_parts info_i64
  have hlb := lb_le c.vs (nth a 0)
  have hT : thB c.vs (nth a 0) = true → lb c.vs (nth a 0) < c.vs.length := fun h => (thB_yes h).1
  have hcapk : c.vs.length ≤ k1 := by
    rcases h.hv.2 with ⟨e, _⟩ | ⟨g2, cp, cur, e, _, _, hc1, _⟩
    · injection e with _ e1 e2; omega
    · injection e with _ _ e2; omega
  have hnone : a1 = none → k1 = 0 := fun e => by
    subst e
    rcases h.hv.2 with ⟨e, _⟩ | ⟨g2, cp, cur, e, _⟩
    · injection e
    · cases e
  have HSG : Hid (∀ i, i ≤ c.vs.length → Sg w 1 (.slice a1 i k1) i (numC (c.vs.take i))) := fun i hi => by
    have := Sg.head h.hv numC_one hi
    rwa [Nat.mul_one, numC_take] at this
  have HST : Hid (∀ i x, a1 = some x → x = ⟨x.block, 0, none⟩ ∧ Sg w 1 (.slice (some ⟨x.block, i, none⟩) (c.vs.length - i) (k1 - i)) (c.vs.length - i) (numC (c.vs.drop i))) := fun i x e => by
    subst e
    obtain ⟨gv, rfl⟩ := own_at0 h.hv
    have := Sg.tail h.hv numC_one (i := i)
    rw [Nat.mul_one, numC_drop] at this
    exact ⟨rfl, this⟩
  unfold chaV at hok ⊢
  generalize hxd : nth a 0 = x at *
  generalize hid : lb c.vs x = i at *
  clear h h0 h3 ha hk hxd
  have hi16 : i ≤ 16 := by omega
  obtain ⟨q, hq⟩ : ∃ q, thB c.vs x = q := ⟨_, rfl⟩
  rw [hq] at hok hT ⊢
  rcases hcall with rfl | rfl
  · rw [if_neg (by decide), if_neg (by decide), if_pos rfl] at hok ⊢
    cases q with
    | true =>
      rw [if_pos rfl]
      clear hok hT
      go_enter Try.func50, Try.ntmps50
      go_wp2_with (at_builtin; refine wpList_append_sg _ rfl _ _ rfl Try.underlying36 hi hz0 hz1 hz2 rfl (by decide) (by decide) w.heap.size (.slice none 0 0) 0 [] rfl (World.ownsRow_nil _ _ _ _) _ _ _ rfl (HSG.out i hlb) ?c1_1 ?c2_1 ?_)
      case c1_1 => omega
      try (case c2_1 => exact Nat.le_refl _)
      intro v1 w1 hown1 hgr1
      obtain ⟨b1, d1, rfl⟩ := own_slice hown1
      have hb1 : Below w.heap.size w w1 := (Below.refl _ _).grown hgr1 (Nat.le_refl _) (fun b hb => by cases hb)
      have s1 : w1.cell? ⟨g, o + 1, none⟩ = some (.slice a1 c.vs.length k1) := cell_later hb1 (a := ⟨g, o + 1, none⟩) hgl h2
      have s2 : w1.frozen? ⟨g, o + 1, none⟩ = false := frozen_at ((hb1.block _ hgl).trans H.out.hg) _
      have HO1 : Hid (w1.ownsRow w.heap.size 2 1 (.slice b1 i d1) i (numC (c.vs.take i))) := by simpa [Hid] using hown1
      have HB1 : Hid (Below w.heap.size w w1) := hb1
      have hw1 : w.heap.size ≤ w1.heap.size := hb1.size
      clear hown1 hgr1 hb1 h2 hf
      go_wp2_with fail
      go_ret2
      exact Dod.same H.out HB1.out (0, 3)
    | false =>
      rw [if_neg (by decide)] at hok ⊢
      clear hT
      by_cases hfull : c.cap ≤ (c.vs.length : Int)
      · rw [if_pos hfull]
        have hd1 : decide (c.cap ≤ (c.vs.length : Int)) = true := by simpa using hfull
        clear hok hfull hvm hc16
        go_enter Try.func50, Try.ntmps50
        go_wp2_with (at_builtin; refine wpList_append_sg _ rfl _ _ rfl Try.underlying36 hi hz0 hz1 hz2 rfl (by decide) (by decide) w.heap.size (.slice none 0 0) 0 [] rfl (World.ownsRow_nil _ _ _ _) _ _ _ rfl (HSG.out i hlb) ?c1_2 ?c2_2 ?_)
        case c1_2 => omega
        try (case c2_2 => exact Nat.le_refl _)
        intro v1 w1 hown1 hgr1
        obtain ⟨b1, d1, rfl⟩ := own_slice hown1
        have hb1 : Below w.heap.size w w1 := (Below.refl _ _).grown hgr1 (Nat.le_refl _) (fun b hb => by cases hb)
        have s1 : w1.cell? ⟨g, o + 1, none⟩ = some (.slice a1 c.vs.length k1) := cell_later hb1 (a := ⟨g, o + 1, none⟩) hgl h2
        have s2 : w1.frozen? ⟨g, o + 1, none⟩ = false := frozen_at ((hb1.block _ hgl).trans H.out.hg) _
        have HO1 : Hid (w1.ownsRow w.heap.size 2 1 (.slice b1 i d1) i (numC (c.vs.take i))) := by simpa [Hid] using hown1
        have HB1 : Hid (Below w.heap.size w w1) := hb1
        have hw1 : w.heap.size ≤ w1.heap.size := hb1.size
        clear hown1 hgr1 hb1 h2 hf
        go_wp2_with fail
        go_ret2
        exact Dod.same H.out HB1.out (0, 2)
      · rw [if_neg hfull] at hok ⊢
        have hd1 : decide (c.cap ≤ (c.vs.length : Int)) = false := by simpa using hfull
        have HK : Hid (CoOk { c with vs := ins c.vs i x }) := hok
        have HL : Hid ((ins c.vs i x).length = i + 1 + (c.vs.length - i) ∧ numC (ins c.vs i x) = numC (c.vs.take i) ++ [.int .i64 x] ++ numC (c.vs.drop i)) := ⟨by rw [ins_len _ _ _ hlb]; omega, by rw [← take_ins, numC_app, numC_app]; rfl⟩
        clear hok hfull hvm hc16
        go_enter Try.func50, Try.ntmps50
        go_wp2_with (at_builtin; refine wpList_append_sg _ rfl _ _ rfl Try.underlying36 hi hz0 hz1 hz2 rfl (by decide) (by decide) w.heap.size (.slice none 0 0) 0 [] rfl (World.ownsRow_nil _ _ _ _) _ _ _ rfl (HSG.out i hlb) ?c1_3 ?c2_3 ?_)
        case c1_3 => omega
        try (case c2_3 => exact Nat.le_refl _)
        intro v1 w1 hown1 hgr1
        obtain ⟨b1, d1, rfl⟩ := own_slice hown1
        have hb1 : Below w.heap.size w w1 := (Below.refl _ _).grown hgr1 (Nat.le_refl _) (fun b hb => by cases hb)
        have s1 : w1.cell? ⟨g, o + 1, none⟩ = some (.slice a1 c.vs.length k1) := cell_later hb1 (a := ⟨g, o + 1, none⟩) hgl h2
        have s2 : w1.frozen? ⟨g, o + 1, none⟩ = false := frozen_at ((hb1.block _ hgl).trans H.out.hg) _
        have HO1 : Hid (w1.ownsRow w.heap.size 2 1 (.slice b1 i d1) i (numC (c.vs.take i))) := by simpa [Hid] using hown1
        have HB1 : Hid (Below w.heap.size w w1) := hb1
        have hw1 : w.heap.size ≤ w1.heap.size := hb1.size
        clear hown1 hgr1 hb1 h2 hf
        go_wp2_with (at_builtin; refine list_lies_wide _ rfl _ _ 36 rfl w.heap.size 2 i0 _ 1 8 Try.underlying36 hi hz0 hz1 hz2 rfl (by decide) _ _ _ rfl (HO1.out.alloc _) ⟨w1.heap.size, 0, none⟩ 1 1 [.int .i64 x] rfl rfl ?c1_4 ?c2_4 ?c3_4 ?c4_4 ?c5_4 ?c6_4 _ rfl ?_)
        case c1_4 => exact World.news_of_block (cs := #[.int .i64 x]) (t := 2) (fr := (0, 0)) (heap_alloc_new _ _)
        case c2_4 => intro u hu; simp at hu; subst hu; rfl
        case c3_4 => decide
        case c4_4 => unfold maxLen; omega
        case c5_4 => omega
        case c6_4 => simp; omega
        intro g2 cp2 w2 hown2 hgr2 _ _
        have hb2 : Below w.heap.size w w2 := (below_alloc HB1.out _).grown hgr2 (by simp; omega) (fun b hb => (own_block HO1.out b hb).1)
        have u1 : w2.cell? ⟨g, o + 1, none⟩ = some (.slice a1 c.vs.length k1) := cell_later hb2 (a := ⟨g, o + 1, none⟩) hgl H.out.cells.2.1
        have HO2 : Hid (w2.ownsRow w.heap.size 2 1 (.slice (some ⟨g2, 0, none⟩) (i + 1) cp2) (i + 1) (numC (c.vs.take i) ++ [.int .i64 x])) := hown2
        have HB2 : Hid (Below w.heap.size w w2) := hb2
        have hw2 : w.heap.size ≤ w2.heap.size := hb2.size
        clear hown2 hgr2 hb2 s1 s2
        by_cases hki : k1 = i
        · have hni : c.vs.length = i := by omega
          have HSE : Hid (Sg w2 1 (.slice a1 0 0) 0 []) := Sg.empty _ _ _
          have HL : Hid ((ins c.vs i x).length = i + 1 + 0 ∧ numC (ins c.vs i x) = numC (c.vs.take i) ++ [.int .i64 x] ++ []) := ⟨by rw [HL.out.1]; omega, by rw [HL.out.2, ← hni, List.drop_length]; rfl⟩
          have u2 : w2.cell? ⟨g, o + 1, none⟩ = some (.slice a1 i i) := by rw [u1, hni, hki]
          clear u1 hni hki
          go_wp2_with (at_builtin; refine wpList_append_sg _ rfl _ _ rfl Try.underlying36 hi hz0 hz1 hz2 rfl (by decide) (by decide) w.heap.size _ _ _ rfl HO2.out _ _ _ rfl HSE.out ?c1_5 ?c2_5 ?_)
          case c1_5 => omega
          try (case c2_5 => exact hw2)
          intro v3 w3 hown3 hgr3
          obtain ⟨b3, d3, rfl⟩ := own_slice hown3
          have hb3 : Below w.heap.size w w3 := bel_grown (base := 0) HB2.out HO2.out hgr3 rfl
          have t1 : w3.cell? ⟨g, o + 1, none⟩ = some (.slice a1 c.vs.length k1) := cell_later hb3 (a := ⟨g, o + 1, none⟩) hgl H.out.cells.2.1
          have t2 : w3.frozen? ⟨g, o + 1, none⟩ = false := frozen_at ((hb3.block _ hgl).trans H.out.hg) _
          have HF := Dod.fresh H.out hB hb3 (by rw [HL.out.1, HL.out.2]; first | exact hown3 | simpa using hown3) HK.out (0, 0)
          clear hown3 hgr3 hb3
          go_wp2_with fail
          go_ret2
          exact HF.out
        · obtain ⟨y, rfl⟩ : ∃ y, a1 = some y := by
            cases a1 with
            | none => have := hnone rfl; omega
            | some y => exact ⟨y, rfl⟩
          obtain ⟨hy, hsg⟩ := HST.out i y rfl
          obtain ⟨gv, rfl⟩ : ∃ gv, y = ⟨gv, 0, none⟩ := ⟨_, hy⟩
          have hgvl : gv < w.heap.size := (own_block H.out.hv gv rfl).2
          have HSE : Hid (Sg w2 1 (.slice (some ⟨gv, i, none⟩) (c.vs.length - i) (k1 - i)) (c.vs.length - i) (numC (c.vs.drop i))) := hsg.later (fun b hb => by injection hb with hb; rw [← hb]; exact HB2.out.block _ hgvl)
          clear hsg
          go_wp2_with (at_builtin; refine wpList_append_sg _ rfl _ _ rfl Try.underlying36 hi hz0 hz1 hz2 rfl (by decide) (by decide) w.heap.size _ _ _ rfl HO2.out _ _ _ rfl HSE.out ?c1_6 ?c2_6 ?_)
          case c1_6 => omega
          try (case c2_6 => exact hw2)
          intro v3 w3 hown3 hgr3
          obtain ⟨b3, d3, rfl⟩ := own_slice hown3
          have hb3 : Below w.heap.size w w3 := bel_grown (base := 0) HB2.out HO2.out hgr3 rfl
          have t1 : w3.cell? ⟨g, o + 1, none⟩ = some (.slice (some ⟨gv, 0, none⟩) c.vs.length k1) := cell_later hb3 (a := ⟨g, o + 1, none⟩) hgl H.out.cells.2.1
          have t2 : w3.frozen? ⟨g, o + 1, none⟩ = false := frozen_at ((hb3.block _ hgl).trans H.out.hg) _
          have HF := Dod.fresh H.out hB hb3 (by rw [HL.out.1, HL.out.2]; first | exact hown3 | simpa using hown3) HK.out (0, 0)
          clear hown3 hgr3 hb3
          go_wp2_with fail
          go_ret2
          exact HF.out
  · rw [if_neg (by decide), if_neg (by decide), if_neg (by decide), if_pos rfl] at hok ⊢
    cases q with
    | false =>
      rw [if_neg (by decide)]
      clear hok hT
      go_enter Try.func50, Try.ntmps50
      go_wp2_with (at_builtin; refine wpList_append_sg _ rfl _ _ rfl Try.underlying36 hi hz0 hz1 hz2 rfl (by decide) (by decide) w.heap.size (.slice none 0 0) 0 [] rfl (World.ownsRow_nil _ _ _ _) _ _ _ rfl (HSG.out i hlb) ?c1_7 ?c2_7 ?_)
      case c1_7 => omega
      try (case c2_7 => exact Nat.le_refl _)
      intro v1 w1 hown1 hgr1
      obtain ⟨b1, d1, rfl⟩ := own_slice hown1
      have hb1 : Below w.heap.size w w1 := (Below.refl _ _).grown hgr1 (Nat.le_refl _) (fun b hb => by cases hb)
      have s1 : w1.cell? ⟨g, o + 1, none⟩ = some (.slice a1 c.vs.length k1) := cell_later hb1 (a := ⟨g, o + 1, none⟩) hgl h2
      have s2 : w1.frozen? ⟨g, o + 1, none⟩ = false := frozen_at ((hb1.block _ hgl).trans H.out.hg) _
      have HO1 : Hid (w1.ownsRow w.heap.size 2 1 (.slice b1 i d1) i (numC (c.vs.take i))) := by simpa [Hid] using hown1
      have HB1 : Hid (Below w.heap.size w w1) := hb1
      have hw1 : w.heap.size ≤ w1.heap.size := hb1.size
      clear hown1 hgr1 hb1 h2 hf
      go_wp2_with fail
      go_ret2
      exact Dod.same H.out HB1.out (0, 1)
    | true =>
      rw [if_pos rfl] at hok ⊢
      have hil : i < c.vs.length := hT rfl
      have HK : Hid (CoOk { c with vs := del c.vs i }) := hok
      have hwi : wrap64 ((i : Int) + 1) = (i : Int) + 1 := by unfold wrap64; omega
      clear hok hT hvm hc16
      go_enter Try.func50, Try.ntmps50
      go_wp2_with (at_builtin; refine wpList_append_sg _ rfl _ _ rfl Try.underlying36 hi hz0 hz1 hz2 rfl (by decide) (by decide) w.heap.size (.slice none 0 0) 0 [] rfl (World.ownsRow_nil _ _ _ _) _ _ _ rfl (HSG.out i hlb) ?c1_8 ?c2_8 ?_)
      case c1_8 => omega
      try (case c2_8 => exact Nat.le_refl _)
      intro v1 w1 hown1 hgr1
      obtain ⟨b1, d1, rfl⟩ := own_slice hown1
      have hb1 : Below w.heap.size w w1 := (Below.refl _ _).grown hgr1 (Nat.le_refl _) (fun b hb => by cases hb)
      have s1 : w1.cell? ⟨g, o + 1, none⟩ = some (.slice a1 c.vs.length k1) := cell_later hb1 (a := ⟨g, o + 1, none⟩) hgl h2
      have s2 : w1.frozen? ⟨g, o + 1, none⟩ = false := frozen_at ((hb1.block _ hgl).trans H.out.hg) _
      have HO1 : Hid (w1.ownsRow w.heap.size 2 1 (.slice b1 i d1) i (numC (c.vs.take i))) := by simpa [Hid] using hown1
      have HB1 : Hid (Below w.heap.size w w1) := hb1
      have hw1 : w.heap.size ≤ w1.heap.size := hb1.size
      clear hown1 hgr1 hb1 h2 hf
      by_cases hki : k1 = i + 1
      · have hni : c.vs.length = i + 1 := by omega
        have HSE : Hid (Sg w1 1 (.slice a1 0 0) 0 []) := Sg.empty _ _ _
        have HL : Hid ((del c.vs i).length = i + 0 ∧ numC (del c.vs i) = numC (c.vs.take i) ++ []) := ⟨by rw [del_len _ _ hil]; omega, by unfold del; rw [← hni, List.drop_length, List.append_nil, List.append_nil]⟩
        have u2 : w1.cell? ⟨g, o + 1, none⟩ = some (.slice a1 (i + 1) (i + 1)) := by rw [s1, hni, hki]
        clear s1 hni hki
        go_wp2_with (at_builtin; refine wpList_append_sg _ rfl _ _ rfl Try.underlying36 hi hz0 hz1 hz2 rfl (by decide) (by decide) w.heap.size _ _ _ rfl HO1.out _ _ _ rfl HSE.out ?c1_9 ?c2_9 ?_)
        case c1_9 => omega
        try (case c2_9 => exact hw1)
        intro v3 w3 hown3 hgr3
        obtain ⟨b3, d3, rfl⟩ := own_slice hown3
        have hb3 : Below w.heap.size w w3 := bel_grown (base := 0) HB1.out HO1.out hgr3 rfl
        have t1 : w3.cell? ⟨g, o + 1, none⟩ = some (.slice a1 c.vs.length k1) := cell_later hb3 (a := ⟨g, o + 1, none⟩) hgl H.out.cells.2.1
        have t2 : w3.frozen? ⟨g, o + 1, none⟩ = false := frozen_at ((hb3.block _ hgl).trans H.out.hg) _
        have HF := Dod.fresh H.out hB hb3 (by rw [HL.out.1, HL.out.2]; first | exact hown3 | simpa using hown3) HK.out (0, 0)
        clear hown3 hgr3 hb3 s2
        go_wp2_with fail
        go_ret2
        exact HF.out
      · obtain ⟨y, rfl⟩ : ∃ y, a1 = some y := by
          cases a1 with
          | none => have := hnone rfl; omega
          | some y => exact ⟨y, rfl⟩
        obtain ⟨hy, hsg⟩ := HST.out (i + 1) y rfl
        obtain ⟨gv, rfl⟩ : ∃ gv, y = ⟨gv, 0, none⟩ := ⟨_, hy⟩
        have hgvl : gv < w.heap.size := (own_block H.out.hv gv rfl).2
        have HSE : Hid (Sg w1 1 (.slice (some ⟨gv, i + 1, none⟩) (c.vs.length - (i + 1)) (k1 - (i + 1))) (c.vs.length - (i + 1)) (numC (c.vs.drop (i + 1)))) := hsg.later (fun b hb => by injection hb with hb; rw [← hb]; exact HB1.out.block _ hgvl)
        have HL : Hid ((del c.vs i).length = i + (c.vs.length - (i + 1)) ∧ numC (del c.vs i) = numC (c.vs.take i) ++ numC (c.vs.drop (i + 1))) := ⟨by rw [del_len _ _ hil]; omega, by unfold del; rw [numC_app]⟩
        clear hsg
        go_wp2_with (at_builtin; refine wpList_append_sg _ rfl _ _ rfl Try.underlying36 hi hz0 hz1 hz2 rfl (by decide) (by decide) w.heap.size _ _ _ rfl HO1.out _ _ _ rfl HSE.out ?c1_10 ?c2_10 ?_)
        case c1_10 => omega
        try (case c2_10 => exact hw1)
        intro v3 w3 hown3 hgr3
        obtain ⟨b3, d3, rfl⟩ := own_slice hown3
        have hb3 : Below w.heap.size w w3 := bel_grown (base := 0) HB1.out HO1.out hgr3 rfl
        have t1 : w3.cell? ⟨g, o + 1, none⟩ = some (.slice (some ⟨gv, 0, none⟩) c.vs.length k1) := cell_later hb3 (a := ⟨g, o + 1, none⟩) hgl H.out.cells.2.1
        have t2 : w3.frozen? ⟨g, o + 1, none⟩ = false := frozen_at ((hb3.block _ hgl).trans H.out.hg) _
        have HF := Dod.fresh H.out hB hb3 (by rw [HL.out.1, HL.out.2]; first | exact hown3 | simpa using hown3) HK.out (0, 0)
        clear hown3 hgr3 hb3 s1 s2
        go_wp2_with fail
        go_ret2
        exact HF.out
end Go.Proofs.Ytgbmnngmfcneaaa.Pl
