/- readLine of the program. -/
import Derived.Test.YtbjopdmchmekpaaDoorAsO
namespace Go.Proofs.YtbjopdmchmekpaaDoor
open Go.ChangeShapes Go.WideShapes Go.ChangeAt Go.RowKit

theorem RdAt.keepT {w0 : World} {Rb : Nat} {st : PS} {w w' : World} {B : Nat} {cs : Array Value} {t : TypeId} (h : RdAt w0 Rb st w) (hB : w.heap[B]? = some (.cells cs t (0, 0))) (h1 : t ≠ 53) (h2 : t ≠ 77) (h3 : t ≠ 38) (hb0 : w0.heap.size ≤ B) (k : Keep [B] w w') : RdAt w0 Rb st w' := by
  obtain ⟨vo, vu, mb, n, D, g1, g2, g3, g4, g5, g6, g7⟩ := h.ex
  have hne : ∀ {e : TypeId} {sz m : Nat} {v : Value} {xs : List Value}, w.ownsRow w0.heap.size e sz v m xs → t ≠ e → ∀ b, v.ownBlock = some b → b ∉ [B] := fun ho ht b hb hm => by
    have hbm : b = B := by simpa using hm
    rw [hbm] at hb
    exact own_ne ho hB ht hb
  refine ⟨⟨vo, vu, mb, n, D, ?_, own_keep g2 k (hne g2 h1), own_keep g3 k (hne g3 h2), ?_, g5, g6, g7⟩, h.rb, h.bel.trans (k.below h.bel.size (by simpa using hb0))⟩
  · rw [k.block _ (heap_lt g1) (by
      intro hm
      have hbm : Rb = B := by simpa using hm
      rw [hbm, hB] at g1
      simp at g1
      exact h3 g1.2)]
    exact g1
  · obtain ⟨es, clock, f1, f2⟩ := g4
    refine ⟨es, clock, ?_, f2⟩
    rw [k.block _ (heap_lt f1) (by
      intro hm
      have hbm : mb = B := by simpa using hm
      rw [hbm, hB] at f1
      cases f1)]
    exact f1
theorem suf_any (x : List UInt8) (hx : x.length ≤ 20000000) (w : World) : Calls Tryd.prog 45 #[.string (S x), .string ⟨#[58]⟩] w fun e w' => e = .returned (.bool (decide (x.getLast? = some 58))) ∧ w' = w := by
  refine (Tryd.strings_HasSuffix (S x) ⟨#[58]⟩ w (by rw [S_size]; omega)).mono ?_
  rintro e w' ⟨rfl, rfl⟩
  refine ⟨?_, rfl⟩
  have : Lib.hasSuffix (S x).data.toList [58] = decide (x.getLast? = some 58) := by
    show Lib.hasSuffix x [58] = _
    unfold Lib.hasSuffix
    rw [Bool.eq_iff_iff, List.isSuffixOf_iff_suffix, decide_eq_true_iff, List.getLast?_eq_some_iff]
    exact ⟨fun ⟨y, hy⟩ => ⟨y, hy.symm⟩, fun ⟨y, hy⟩ => ⟨y, hy.symm⟩⟩
  rw [← this]
/-- What is so of a reader: it is small. -/
def SmallR (st : PS) : Prop := st.size ≤ 512 ∧ st.ops.length ≤ 512 ∧ st.us.length ≤ 512
set_option maxRecDepth 100000 in
set_option maxHeartbeats 4000000 in
theorem readLine_any {w0 : World} {Rb : Nat} {st : PS} (hT : TabE w0) (s : ByteArray) (hs : s.size ≤ 20000000) (a e : Nat) (hae : a ≤ e) (he : e ≤ s.size) (hsm : SmallR st) (hlb : st.labs.length ≤ 20000000) {w : World} (h : RdAt w0 Rb st w) :
    Calls Tryd.prog 27 #[.pointer (some ⟨Rb, 0, none⟩), .agg #[.string s, .int .i64 (a : Int), .int .i64 (e : Int)]] w fun r w' => EndR w0 Rb (lineV st (tokV (cut s a e) a)) r w' := by
  have HNX : Hid (∀ a' : Nat, a' ≤ e → ∀ (B : Nat) w', LnAt w' B s a' e → Calls Tryd.prog 44 #[.pointer (some ⟨B, 0, none⟩)] w' fun r w'' => r = .returned (.agg #[.string (S (cut s (skB s a' e) (skT s (skB s a' e) e))), .int .i64 (skB s a' e : Int)]) ∧ LnAt w'' B s (skT s (skB s a' e) e) e ∧ Keep [B] w' w'') := fun a' ha B w' h => by
    have := next_any s (by omega) a' e ha he h
    rw [ext_S] at this
    exact this
  have HSF : Hid (∀ x : List UInt8, x.length ≤ 20000000 → ∀ w, Calls Tryd.prog 45 #[.string (S x), .string ⟨#[58]⟩] w fun e w' => e = .returned (.bool (decide (x.getLast? = some 58))) ∧ w' = w) := fun x hx w => suf_any x hx w
  have HRI : Hid (∀ st' : PS, SmallR st' → ∀ x : List UInt8, x.length ≤ 20000000 → ∀ p : Nat, p ≤ 20000000 → ∀ a' : Nat, a' ≤ e → ∀ w', RdAt w0 Rb st' w' → Calls Tryd.prog 47 #[.pointer (some ⟨Rb, 0, none⟩), .agg #[.string (S x), .int .i64 (p : Int)], .agg #[.string s, .int .i64 (a' : Int), .int .i64 (e : Int)]] w' fun r w'' => EndR w0 Rb (instV st' ((x, p) :: tokV (cut s a' e) a')) r w'') := fun st' hsm x hx p hp a' ha w' h => readIns_any hT x hx p hp s hs a' e ha he hsm.1 hsm.2.1 hsm.2.2 h
  have HRD : Hid (RdAt w0 Rb st w) := h
  have HL1 : Hid (LnAt (w.alloc (.cells #[.string s, .int .i64 (a : Int), .int .i64 (e : Int)] 73)) w.heap.size s a e) := heap_alloc_new _ _
  have hk := sk_le s a e hae he
  have hk2 := sk_le s (skB s a e) e hk.2.1 he
  have hT1 := tok_next s a e hae he
  have hxl : (cut s (skB s a e) (skT s (skB s a e) e)).length ≤ 20000000 := by rw [cut_len s _ _ hk2.2.2.1 (by omega)]; omega
  have HRD1 : Hid (RdAt w0 Rb st (w.alloc (.cells #[.string s, .int .i64 (a : Int), .int .i64 (e : Int)] 73))) := h.later (below_a1 _ _)
  have HB0 : Hid (w0.heap.size ≤ w.heap.size) := h.bel.size
  have HN1 := HNX.out a hae w.heap.size _ HL1.out
  obtain ⟨x, hx⟩ : ∃ x, cut s (skB s a e) (skT s (skB s a e) e) = x := ⟨_, rfl⟩
  obtain ⟨q, hq⟩ : ∃ q, skB s a e = q := ⟨_, rfl⟩
  obtain ⟨a2, ha2⟩ : ∃ a2, skT s q e = a2 := ⟨_, rfl⟩
  have hqs : q ≤ 20000000 := by omega
  rw [hx] at HN1 hT1 hxl
  rw [hq] at HN1 hT1 hk2
  rw [ha2] at HN1 hT1 hk2
  have HA2 : Hid (a2 ≤ e) := hk2.2.2.2
  have HN1' : Hid (Calls Tryd.prog 44 #[.pointer (some ⟨w.heap.size, 0, none⟩)] (w.alloc (.cells #[.string s, .int .i64 (a : Int), .int .i64 (e : Int)] 73)) fun r w'' => r = .returned (.agg #[.string (S x), .int .i64 (q : Int)]) ∧ LnAt w'' w.heap.size s a2 e ∧ Keep [w.heap.size] (w.alloc (.cells #[.string s, .int .i64 (a : Int), .int .i64 (e : Int)] 73)) w'') := HN1
  clear HN1 hx hq ha2 hk hk2
  go_enter Tryd.func27, Tryd.ntmps27
  go_wp2_with fail
  refine HN1'.out.mono ?_
  rintro r1 w1 ⟨rfl, hl1, hk1⟩
  have HRD2 : Hid (RdAt w0 Rb st (w1.alloc (.cells #[.string (S x), .int .i64 (q : Int)] 75))) := (HRD1.out.keep HL1.out HB0.out hk1).later (below_a1 _ _)
  have HL2 : Hid (LnAt (w1.alloc (.cells #[.string (S x), .int .i64 (q : Int)] 75)) w.heap.size s a2 e) := hl1.later (below_a1 _ _)
  have HB1 : Hid (w0.heap.size ≤ w1.heap.size) := Nat.le_trans HB0.out (Nat.le_of_lt (heap_lt hl1))
  clear hk1 hl1 HRD1 HL1 HN1' h
  have HS1 := HSF.out x hxl
  obtain ⟨Bl, hBl⟩ : ∃ Bl, w.heap.size = Bl := ⟨_, rfl⟩
  rw [hBl] at HL2 HB0 ⊢
  clear hBl
  by_cases h58 : x.getLast? = some 58
  · rw [decide_eq_true h58] at HS1
    have HS2 : Hid (∀ w, Calls Tryd.prog 45 #[.string (S x), .string ⟨#[58]⟩] w fun e w' => e = .returned (.bool true) ∧ w' = w) := HS1
    have HPL : Hid (∀ w', RdAt w0 Rb st w' → Calls Tryd.prog 46 #[.pointer (some ⟨Rb, 0, none⟩), .agg #[.string (S x), .int .i64 (q : Int)]] w' fun e w'' => EndR w0 Rb (labelV st x q) e w'' ∧ (e = .returned (.tuple #[]) → KC w' w'')) := fun w' h => putLabel_any x (by omega) h58 q hsm.1 (by omega) h
    have hTT : tokV (cut s a e) a = (x, q) :: tokV (cut s a2 e) a2 := by
      rcases hT1 with ⟨_, _, _, t4⟩ | ⟨_, _, t3⟩
      · rw [t4] at h58; cases h58
      · exact t3
    have HV : Hid (lineV st (tokV (cut s a e) a) = match labelV st x q with | .error er => .error er | .ok st' => instV st' (tokV (cut s a2 e) a2)) := by
      rw [Hid, hTT]
      simp only [lineV, h58, if_true, labelV]
      split
      · split <;> rfl
      · rfl
    clear HS1 hT1 hTT
    obtain ⟨X, hX⟩ : ∃ X, S x = X := ⟨_, rfl⟩
    rw [hX] at HS2 HPL HRD2 HL2 ⊢
    clear hX
    go_wp2_with fail
    refine (HS2.out _).mono ?_
    rintro r2 w2 ⟨rfl, hw2⟩
    obtain rfl := hw2
    go_wp2_with fail
    refine (HPL.out _ HRD2.out).mono ?_
    rintro r3 w3 ⟨hr3, hk3⟩
    cases hlv : labelV st x q with
    | error er =>
      rw [hlv] at hr3
      obtain ⟨er, pe⟩ := er
      obtain ⟨rfl, hb3⟩ := hr3
      refine ⟨rfl, ?_⟩
      rw [HV.out, hlv]
      exact ⟨rfl, hb3⟩
    | ok st' =>
      rw [hlv] at hr3
      obtain ⟨rfl, hr3⟩ := hr3
      have hkc := hk3 rfl
      have hsm' : SmallR st' := by
        unfold labelV at hlv
        split at hlv
        · split at hlv
          · cases hlv; exact hsm
          · cases hlv
        · cases hlv
      have HR3 : Hid (RdAt w0 Rb st' w3) := hr3
      have HL3 : Hid (LnAt w3 Bl s a2 e) := hkc _ _ _ _ HL2.out
      have HK3 : Hid (w3.heap[w1.heap.size]? = some (.cells #[.string X, .int .i64 (q : Int)] 75 (0, 0))) := hkc _ _ _ _ (heap_alloc_new _ _)
      have HV2 : Hid (lineV st (tokV (cut s a e) a) = instV st' (tokV (cut s a2 e) a2)) := by rw [Hid, HV.out, hlv]
      have hT2 := tok_next s a2 e HA2.out he
      have hk := sk_le s a2 e HA2.out he
      have hk2 := sk_le s (skB s a2 e) e hk.2.1 he
      have hyl : (cut s (skB s a2 e) (skT s (skB s a2 e) e)).length ≤ 20000000 := by rw [cut_len s _ _ hk2.2.2.1 (by omega)]; omega
      have HN2 := HNX.out a2 HA2.out Bl w3 HL3.out
      obtain ⟨y, hy⟩ : ∃ y, cut s (skB s a2 e) (skT s (skB s a2 e) e) = y := ⟨_, rfl⟩
      obtain ⟨q2, hq2⟩ : ∃ q2, skB s a2 e = q2 := ⟨_, rfl⟩
      obtain ⟨a4, ha4⟩ : ∃ a4, skT s q2 e = a4 := ⟨_, rfl⟩
      have hqs2 : q2 ≤ 20000000 := by omega
      rw [hy] at HN2 hT2 hyl
      rw [hq2] at HN2 hT2 hk2
      rw [ha4] at HN2 hT2 hk2
      have HA4 : Hid (a4 ≤ e) := hk2.2.2.2
      have HN2' : Hid (Calls Tryd.prog 44 #[.pointer (some ⟨Bl, 0, none⟩)] w3 fun r w'' => r = .returned (.agg #[.string (S y), .int .i64 (q2 : Int)]) ∧ LnAt w'' Bl s a4 e ∧ Keep [Bl] w3 w'') := HN2
      obtain ⟨Bk, hBk⟩ : ∃ Bk, w1.heap.size = Bk := ⟨_, rfl⟩
      rw [hBk] at HK3 HB1 ⊢
      clear hr3 hkc hk3 HRD2 HL2 HPL HS2 HN2 hy hq2 ha4 hk hk2 hBk hlv HV
      go_wp2_with fail
      refine HN2'.out.mono ?_
      rintro r4 w4 ⟨rfl, hl4, hk4⟩
      have HR4 : Hid (RdAt w0 Rb st' w4) := HR3.out.keep HL3.out HB0.out hk4
      have hkl : Bk ≠ Bl := ne_of_type HK3.out HL3.out (by decide)
      have HK4 : Hid (w4.heap[Bk]? = some (.cells #[.string X, .int .i64 (q : Int)] 75 (0, 0))) := by
        rw [Hid, hk4.block _ (heap_lt HK3.out) (by simpa using hkl)]
        exact HK3.out
      have b0 : w4.cell? ⟨Bk, 0, none⟩ = some (.string X) := by rw [cell_at HK4.out]; rfl
      have b1 : w4.cell? ⟨Bk, 1, none⟩ = some (.int .i64 (q : Int)) := by rw [cell_at HK4.out]; rfl
      have bf0 : w4.frozen? ⟨Bk, 0, none⟩ = false := frozen_at HK4.out 0
      have bf1 : w4.frozen? ⟨Bk, 1, none⟩ = false := frozen_at HK4.out 1
      have HR5 : Hid (∀ u v, RdAt w0 Rb st' ((w4.setCell ⟨Bk, 0, none⟩ u).setCell ⟨Bk, 1, none⟩ v)) := fun u v => HR4.out.keepT HK4.out (by decide) (by decide) (by decide) HB1.out (((Keep.refl _ _).setCell _ _ (Or.inl (by simp))).setCell _ _ (Or.inl (by simp)))
      have l0 : ∀ u v, ((w4.setCell ⟨Bk, 0, none⟩ u).setCell ⟨Bk, 1, none⟩ v).cell? ⟨Bl, 0, none⟩ = some (.string s) := fun u v => by rw [World.cell?_setCell_far _ _ _ _ hkl, World.cell?_setCell_far _ _ _ _ hkl, cell_at hl4]; rfl
      have l1 : ∀ u v, ((w4.setCell ⟨Bk, 0, none⟩ u).setCell ⟨Bk, 1, none⟩ v).cell? ⟨Bl, 1, none⟩ = some (.int .i64 (a4 : Int)) := fun u v => by rw [World.cell?_setCell_far _ _ _ _ hkl, World.cell?_setCell_far _ _ _ _ hkl, cell_at hl4]; rfl
      have l2 : ∀ u v, ((w4.setCell ⟨Bk, 0, none⟩ u).setCell ⟨Bk, 1, none⟩ v).cell? ⟨Bl, 2, none⟩ = some (.int .i64 (e : Int)) := fun u v => by rw [World.cell?_setCell_far _ _ _ _ hkl, World.cell?_setCell_far _ _ _ _ hkl, cell_at hl4]; rfl
      clear hl4 hk4 HR3 HL3 HK3 HN2'
      rcases hT2 with ⟨t1, t2, t3, t4⟩ | ⟨t1, t2, t3⟩
      · have hem : (S y).toList.isEmpty = true := by rw [t4, ba_empty]; rfl
        have HV3 : Hid (lineV st (tokV (cut s a e) a) = .ok st') := by rw [Hid, HV2.out, t3]; rfl
        generalize S y = Y at *
        clear t1 t2 t3 t4 HV2
        go_wp2
        go_end0
        rw [HV3.out]
        exact ⟨rfl, HR5.out _ _⟩
      · have hem : (S y).toList.isEmpty = false := by rw [ba_empty, S_size]; simp; exact t2
        have HC : Hid (∀ w', RdAt w0 Rb st' w' → Calls Tryd.prog 47 #[.pointer (some ⟨Rb, 0, none⟩), .agg #[.string (S y), .int .i64 (q2 : Int)], .agg #[.string s, .int .i64 (a4 : Int), .int .i64 (e : Int)]] w' fun r w'' => EndR w0 Rb (lineV st (tokV (cut s a e) a)) r w'') := fun w' h => by
          have := HRI.out st' hsm' y hyl q2 hqs2 a4 HA4.out w' h
          rw [HV2.out, t3]
          exact this
        obtain ⟨Y, hY⟩ : ∃ Y, S y = Y := ⟨_, rfl⟩
        rw [hY] at hem HC ⊢
        clear t1 t2 t3 hY HV2
        go_wp2_with fail
        refine (HC.out _ (HR5.out _ _)).mono ?_
        intro r6 w6 h6
        cases hlv : lineV st (tokV (cut s a e) a) with
        | error er =>
          rw [hlv] at h6
          obtain ⟨er, pe⟩ := er
          obtain ⟨rfl, hb6⟩ := h6
          refine ⟨rfl, ?_⟩
          rw [hlv]
          exact ⟨rfl, hb6⟩
        | ok st6 =>
          rw [hlv] at h6
          obtain ⟨rfl, h6⟩ := h6
          go_wp2
          go_end0
          rw [hlv]
          exact ⟨rfl, h6⟩
  · rw [decide_eq_false h58] at HS1
    have HS2 : Hid (∀ w, Calls Tryd.prog 45 #[.string (S x), .string ⟨#[58]⟩] w fun e w' => e = .returned (.bool false) ∧ w' = w) := HS1
    have l0 : (w1.alloc (.cells #[.string (S x), .int .i64 (q : Int)] 75)).cell? ⟨Bl, 0, none⟩ = some (.string s) := by rw [cell_at HL2.out]; rfl
    have l1 : (w1.alloc (.cells #[.string (S x), .int .i64 (q : Int)] 75)).cell? ⟨Bl, 1, none⟩ = some (.int .i64 (a2 : Int)) := by rw [cell_at HL2.out]; rfl
    have l2 : (w1.alloc (.cells #[.string (S x), .int .i64 (q : Int)] 75)).cell? ⟨Bl, 2, none⟩ = some (.int .i64 (e : Int)) := by rw [cell_at HL2.out]; rfl
    clear HS1
    rcases hT1 with ⟨t1, t2, t3, t4⟩ | ⟨t1, t2, t3⟩
    · have hem : (S x).toList.isEmpty = true := by rw [t4, ba_empty]; rfl
      have HV : Hid (lineV st (tokV (cut s a e) a) = .ok st) := by rw [Hid, t3]; rfl
      generalize S x = X at *
      clear t1 t2 t3 t4 h58
      go_wp2_with fail
      refine (HS2.out _).mono ?_
      rintro r2 w2 ⟨rfl, hw2⟩
      obtain rfl := hw2
      go_wp2
      go_end0
      rw [HV.out]
      exact ⟨rfl, HRD2.out⟩
    · have hem : (S x).toList.isEmpty = false := by rw [ba_empty, S_size]; simp; exact t2
      have HC : Hid (∀ w', RdAt w0 Rb st w' → Calls Tryd.prog 47 #[.pointer (some ⟨Rb, 0, none⟩), .agg #[.string (S x), .int .i64 (q : Int)], .agg #[.string s, .int .i64 (a2 : Int), .int .i64 (e : Int)]] w' fun r w'' => EndR w0 Rb (lineV st (tokV (cut s a e) a)) r w'') := fun w' h => by
        have := HRI.out st hsm x hxl q hqs a2 HA2.out w' h
        rw [t3]
        simp only [lineV, h58, if_false]
        exact this
      obtain ⟨X, hX⟩ : ∃ X, S x = X := ⟨_, rfl⟩
      rw [hX] at hem HC HS2 l0 l1 l2 HRD2 HL2 ⊢
      clear t1 t2 t3 hX
      go_wp2_with fail
      refine (HS2.out _).mono ?_
      rintro r2 w2 ⟨rfl, hw2⟩
      obtain rfl := hw2
      go_wp2_with fail
      refine (HC.out _ HRD2.out).mono ?_
      intro r6 w6 h6
      cases hlv : lineV st (tokV (cut s a e) a) with
      | error er =>
        rw [hlv] at h6
        obtain ⟨er, pe⟩ := er
        obtain ⟨rfl, hb6⟩ := h6
        refine ⟨rfl, ?_⟩
        rw [hlv]
        exact ⟨rfl, hb6⟩
      | ok st6 =>
        rw [hlv] at h6
        obtain ⟨rfl, h6⟩ := h6
        go_wp2
        go_end0
        rw [hlv]
        exact ⟨rfl, h6⟩
end Go.Proofs.YtbjopdmchmekpaaDoor
