/- readInstruction of the program. -/
import Derived.Test.YtbjopdmchmekpaaDoorAsL
import Derived.Test.YtbjopdmchmekpaaDoorAppW
namespace Go.Proofs.YtbjopdmchmekpaaDoor
open Go.ChangeShapes Go.WideShapes Go.ChangeAt Go.RowKit

theorem cut_split (s : ByteArray) (a q e : Nat) (h1 : a ≤ q) (h2 : q ≤ e) (he : e ≤ s.size) : cut s a e = cut s a q ++ cut s q e := by
  unfold cut
  have e1 : s.data.toList.take q = (s.data.toList.take e).take q := by rw [List.take_take, Nat.min_eq_left h2]
  rw [e1]
  generalize hL : s.data.toList.take e = L
  have hl : L.length = e := by rw [← hL, List.length_take, ba_len]; omega
  rw [← List.drop_append_of_le_length (by rw [List.length_take]; omega), List.take_append_drop]
theorem ext_S (s : ByteArray) (a e : Nat) : s.extract a e = S (cut s a e) := by
  have h := Lib.extract_toList s a e
  rw [ba_toList] at h
  have h2 : (s.extract a e).data.toList = cut s a e := by
    rw [h]
    unfold cut
    rw [List.drop_take]
  rw [← S_list (s.extract a e), h2]
/-- The next token of a line. -/
theorem tok_next (s : ByteArray) (a e : Nat) (h1 : a ≤ e) (he : e ≤ s.size) :
    (skB s a e = e ∧ skT s (skB s a e) e = e ∧ tokV (cut s a e) a = [] ∧ cut s (skB s a e) (skT s (skB s a e) e) = []) ∨
    (skB s a e < e ∧ cut s (skB s a e) (skT s (skB s a e) e) ≠ [] ∧ tokV (cut s a e) a = (cut s (skB s a e) (skT s (skB s a e) e), skB s a e) :: tokV (cut s (skT s (skB s a e) e) e) (skT s (skB s a e) e)) := by
  obtain ⟨k1, k2, _, _⟩ := sk_le s a e h1 he
  obtain ⟨_, _, k3, k4⟩ := sk_le s (skB s a e) e k2 he
  have hb : (cut s a e).takeWhile isB = cut s a (skB s a e) := by
    have h := cut_split s a (skB s a e) e k1 k2 he
    have hp : (cut s a e).takeWhile isB = (cut s a e).take ((cut s a e).takeWhile isB).length := List.prefix_iff_eq_take.1 (List.takeWhile_prefix _)
    have hn : ((cut s a e).takeWhile isB).length = (cut s a (skB s a e)).length := by rw [cut_len s a _ k1 (by omega)]; unfold skB; omega
    rw [hp, hn, h, List.take_left]
  have hd : (cut s a e).dropWhile isB = cut s (skB s a e) e := by
    have h := cut_split s a (skB s a e) e k1 k2 he
    have := List.takeWhile_append_dropWhile (p := isB) (l := cut s a e)
    rw [hb] at this
    exact List.append_cancel_left (this.trans h)
  by_cases hq : skB s a e = e
  · left
    refine ⟨hq, by rw [hq, skT_end s e e (Nat.le_refl _)], tokV_nil a (by rw [hd, hq, cut_nil s e e (Nat.le_refl _)]), by rw [hq, skT_end s e e (Nat.le_refl _), cut_nil s e e (Nat.le_refl _)]⟩
  · right
    have hlt : skB s a e < e := by omega
    have hc := cut_cons s (skB s a e) e hlt he
    have hnb : isB (s[skB s a e]'(by omega)) = false := by
      have := List.head?_dropWhile_not (p := isB) (l := cut s a e)
      rw [hd, hc] at this
      simpa using this
    have hst := skT_step s (skB s a e) e hlt he
    rw [hnb] at hst
    simp only [Bool.false_eq_true, if_false] at hst
    obtain ⟨_, _, k5, k6⟩ := sk_le s (skB s a e + 1) e (by omega) he
    have ht : (cut s (skB s a e + 1) e).takeWhile nB = cut s (skB s a e + 1) (skT s (skB s a e) e) := by
      rw [hst]
      have h := cut_split s (skB s a e + 1) (skT s (skB s a e + 1) e) e k5 k6 he
      have hp : (cut s (skB s a e + 1) e).takeWhile nB = (cut s (skB s a e + 1) e).take ((cut s (skB s a e + 1) e).takeWhile nB).length := List.prefix_iff_eq_take.1 (List.takeWhile_prefix _)
      have hn : ((cut s (skB s a e + 1) e).takeWhile nB).length = (cut s (skB s a e + 1) (skT s (skB s a e + 1) e)).length := by rw [cut_len s _ _ k5 (by omega)]; unfold skT; omega
      rw [hp, hn, h, List.take_left]
    have hdt : (cut s (skB s a e + 1) e).dropWhile nB = cut s (skT s (skB s a e) e) e := by
      have h := cut_split s (skB s a e + 1) (skT s (skB s a e) e) e (by rw [hst]; exact k5) (by omega) he
      have := List.takeWhile_append_dropWhile (p := nB) (l := cut s (skB s a e + 1) e)
      rw [ht] at this
      exact List.append_cancel_left (this.trans h)
    have hcc : cut s (skB s a e) (skT s (skB s a e) e) = s[skB s a e]'(by omega) :: cut s (skB s a e + 1) (skT s (skB s a e) e) := cut_cons s _ _ (by rw [hst]; omega) (by omega)
    refine ⟨hlt, by rw [hcc]; simp, ?_⟩
    rw [tokV_cons a (hd.trans hc), ht, hdt, hcc, hb]
    have l1 := cut_len s a (skB s a e) k1 (by omega)
    have l2 := cut_len s (skB s a e + 1) (skT s (skB s a e) e) (by rw [hst]; exact k5) (by omega)
    rw [l1, l2]
    have e1 : a + (skB s a e - a) = skB s a e := by omega
    have e2 : skB s a e + (1 + (skT s (skB s a e) e - (skB s a e + 1))) = skT s (skB s a e) e := by rw [hst] at *; omega
    rw [e1, e2]
/-- A word and the rest of its line, as they lie; all that was there stays. -/
structure IW (wb : World) (Bw Bl : Nat) (X : ByteArray) (p : Nat) (s : ByteArray) (a e : Nat) (wx : World) : Prop where
  bel : Below wb.heap.size wb wx
  ln : LnAt wx Bl s a e
  wd : wx.heap[Bw]? = some (.cells #[.string X, .int .i64 (p : Int)] 75 (0, 0))
  lb : wb.heap.size ≤ Bl
theorem IW.later {wb : World} {Bw Bl : Nat} {X : ByteArray} {p : Nat} {s : ByteArray} {a e : Nat} {wx wy : World} (h : IW wb Bw Bl X p s a e wx) (hb : Below wx.heap.size wx wy) : IW wb Bw Bl X p s a e wy :=
  ⟨below_then h.bel hb, h.ln.later hb, by rw [hb.block _ (heap_lt h.wd)]; exact h.wd, h.lb⟩
theorem IW.next {wb : World} {Bw Bl : Nat} {X : ByteArray} {p : Nat} {s : ByteArray} {a a' e : Nat} {wx wy : World} (h : IW wb Bw Bl X p s a e wx) (hk : Keep [Bl] wx wy) (hl : LnAt wy Bl s a' e) : IW wb Bw Bl X p s a' e wy :=
  ⟨h.bel.trans (hk.below h.bel.size (by simpa using h.lb)), hl, by rw [hk.block _ (heap_lt h.wd) (by simp; exact ne_of_type h.wd h.ln (by decide))]; exact h.wd, h.lb⟩
theorem IW.b0 {w0 wb : World} {Rb : Nat} {st : PS} {Bw Bl : Nat} {X : ByteArray} {p : Nat} {s : ByteArray} {a e : Nat} {wx : World} (h : IW wb Bw Bl X p s a e wx) (hr : RdAt w0 Rb st wb) : Below w0.heap.size w0 wx := below_then hr.bel h.bel
theorem IW.set {wb : World} {Bw Bl : Nat} {X : ByteArray} {p : Nat} {s : ByteArray} {a e : Nat} {wx : World} (h : IW wb Bw Bl X p s a e wx) (b i : Nat) (v : Value) (h1 : wb.heap.size ≤ b) (h2 : b ≠ Bw) (h3 : b ≠ Bl) : IW wb Bw Bl X p s a e (wx.setCell ⟨b, i, none⟩ v) :=
  ⟨h.bel.setCell (p := ⟨b, i, none⟩) h1 _, by unfold LnAt; rw [heap_set_other _ _ h3]; exact h.ln, by rw [heap_set_other _ _ h2]; exact h.wd, h.lb⟩
theorem lohi (c : Nat) : loC c ≤ 0 ∧ 0 ≤ hiC c := by
  unfold loC hiC
  constructor
  · repeat' split
    all_goals omega
  · repeat' split
    all_goals omega
def tokCl : Option (List UInt8 × Nat) → Array Value
  | some (y, q) => #[.string (S y), .int .i64 (q : Int)]
  | none => #[.string ⟨#[]⟩, .int .i64 0]
/-- An instruction and its operand's name, as they lie. -/
structure ON (Bo Bn c : Nat) (v : Int) (nm : Option (List UInt8 × Nat)) (wx : World) : Prop where
  op : wx.heap[Bo]? = some (.cells #[.int .i64 (c : Int), .int .i64 v] 53 (0, 0))
  nb : wx.heap[Bn]? = some (.cells (tokCl nm) 75 (0, 0))
theorem ON.later {Bo Bn c : Nat} {v : Int} {nm : Option (List UInt8 × Nat)} {wx wy : World} (h : ON Bo Bn c v nm wx) (hb : Below wx.heap.size wx wy) : ON Bo Bn c v nm wy :=
  ⟨by rw [hb.block _ (heap_lt h.op)]; exact h.op, by rw [hb.block _ (heap_lt h.nb)]; exact h.nb⟩
theorem ON.next {Bo Bn c : Nat} {v : Int} {nm : Option (List UInt8 × Nat)} {wx wy : World} {Bl : Nat} {s : ByteArray} {a e : Nat} (h : ON Bo Bn c v nm wx) (hl : LnAt wx Bl s a e) (hk : Keep [Bl] wx wy) : ON Bo Bn c v nm wy :=
  ⟨by rw [hk.block _ (heap_lt h.op) (by simp; exact ne_of_type h.op hl (by decide))]; exact h.op, by rw [hk.block _ (heap_lt h.nb) (by simp; exact ne_of_type h.nb hl (by decide))]; exact h.nb⟩
/-- The reader in its parts. -/
structure RP (w0 : World) (Rb : Nat) (vo : Value) (ops : List (Int × Int)) (sz mb : Nat) (vu : Value) (us : List (Nat × List UInt8 × Nat × Nat)) (labs : List (List UInt8 × Nat)) (wx : World) : Prop where
  blk : wx.heap[Rb]? = some (.cells #[vo, .int .i64 (sz : Int), .map (some mb), vu] 38 (0, 0))
  oo : wx.ownsRow w0.heap.size 53 2 vo ops.length (opsC ops)
  ou : wx.ownsRow w0.heap.size 77 4 vu us.length (usesC us)
  om : ∃ n D, wx.ownsMap Tryd.prog 9 (plainElem Tryd.prog 3) mb n D ∧ LabOk labs D ∧ n ≤ labs.length
  mb0 : w0.heap.size ≤ mb
  rb : w0.heap.size ≤ Rb
  bel : Below w0.heap.size w0 wx
theorem RdAt.parts {w0 : World} {Rb : Nat} {st : PS} {wx : World} (h : RdAt w0 Rb st wx) : ∃ vo vu mb, RP w0 Rb vo st.ops st.size mb vu st.us st.labs wx := by
  obtain ⟨vo, vu, mb, n, D, h1, h2, h3, h4, h5, h6, h7⟩ := h.ex
  exact ⟨vo, vu, mb, h1, h2, h3, ⟨n, D, h4, h5, h7⟩, h6, h.rb, h.bel⟩
theorem RP.whole {w0 : World} {Rb : Nat} {vo vu : Value} {mb : Nat} {st : PS} {wx : World} (h : RP w0 Rb vo st.ops st.size mb vu st.us st.labs wx) : RdAt w0 Rb st wx := by
  obtain ⟨n, D, h4, h5, h7⟩ := h.om
  exact ⟨⟨vo, vu, mb, n, D, h.blk, h.oo, h.ou, h4, h5, h.mb0, h7⟩, h.rb, h.bel⟩
theorem RP.map_ne {w0 : World} {Rb : Nat} {vo : Value} {ops : List (Int × Int)} {sz mb : Nat} {vu : Value} {us : List (Nat × List UInt8 × Nat × Nat)} {labs : List (List UInt8 × Nat)} {wx : World} (h : RP w0 Rb vo ops sz mb vu us labs wx) {b : Nat} {cs : Array Value} {t : TypeId} (hb : wx.heap[b]? = some (.cells cs t (0, 0))) : mb ≠ b := fun e => by
  obtain ⟨n, D, ⟨es, clock, g1, _⟩, _⟩ := h.om
  rw [e, hb] at g1
  cases g1
/-- A store into the reader's own block. -/
theorem RP.set {w0 : World} {Rb : Nat} {vo vo' : Value} {ops : List (Int × Int)} {sz sz' mb : Nat} {vu vu' : Value} {us us' : List (Nat × List UInt8 × Nat × Nat)} {labs : List (List UInt8 × Nat)} {ops' : List (Int × Int)} {wx : World} (h : RP w0 Rb vo ops sz mb vu us labs wx) (i : Nat) (v : Value)
    (hc : (#[vo, .int .i64 (sz : Int), .map (some mb), vu] : Array Value).setIfInBounds i v = #[vo', .int .i64 (sz' : Int), .map (some mb), vu']) (ho : wx.ownsRow w0.heap.size 53 2 vo' ops'.length (opsC ops')) (hu : wx.ownsRow w0.heap.size 77 4 vu' us'.length (usesC us')) :
    RP w0 Rb vo' ops' sz' mb vu' us' labs (wx.setCell ⟨Rb, i, none⟩ v) := by
  have hk : Keep [Rb] wx (wx.setCell ⟨Rb, i, none⟩ v) := (Keep.refl _ _).setCell _ _ (Or.inl (by simp))
  have hne : ∀ {e : TypeId} {s m : Nat} {u : Value} {xs : List Value}, wx.ownsRow w0.heap.size e s u m xs → 38 ≠ e → ∀ b, u.ownBlock = some b → b ∉ [Rb] := fun hr ht b hb hm => by
    have hbm : b = Rb := by simpa using hm
    rw [hbm] at hb
    exact own_ne hr h.blk ht hb
  refine ⟨by rw [heap_set h.blk, hc], own_keep ho hk (hne ho (by decide)), own_keep hu hk (hne hu (by decide)), ?_, h.mb0, h.rb, h.bel.setCell (p := ⟨Rb, i, none⟩) h.rb _⟩
  have hm := h.map_ne h.blk
  obtain ⟨n, D, ⟨es, clock, g1, g2⟩, g3⟩ := h.om
  exact ⟨n, D, ⟨es, clock, by rw [heap_set_other _ _ (fun e => hm e.symm)]; exact g1, g2⟩, g3⟩
theorem RP.later {w0 : World} {Rb : Nat} {vo : Value} {ops : List (Int × Int)} {sz mb : Nat} {vu : Value} {us : List (Nat × List UInt8 × Nat × Nat)} {labs : List (List UInt8 × Nat)} {wx wy : World} (h : RP w0 Rb vo ops sz mb vu us labs wx) (hb : Below wx.heap.size wx wy) : RP w0 Rb vo ops sz mb vu us labs wy := by
  obtain ⟨n, D, ⟨es, clock, g1, g2⟩, g3⟩ := h.om
  exact ⟨by rw [hb.block _ (heap_lt h.blk)]; exact h.blk, own_keep h.oo (Keep.of_below hb []) (by simp), own_keep h.ou (Keep.of_below hb []) (by simp), ⟨n, D, ⟨es, clock, by rw [hb.block _ (heap_lt g1)]; exact g1, g2⟩, g3⟩, h.mb0, h.rb, below_then h.bel hb⟩
theorem grown_keep {w w' : World} {v : Value} (h : w.grownBy w' v.ownBlock) {b : Nat} {o : Obj} (hb : w.heap[b]? = some o) (hne : v.ownBlock ≠ some b) : w'.heap[b]? = some o := by
  have hk : Keep (match v.ownBlock with | some b => [b] | none => []) w w' := (Keep.refl _ _).grown h (fun b hb => by rw [hb]; exact Or.inl (by simp))
  rw [hk.block _ (heap_lt hb) ?_]
  · exact hb
  · cases hv : v.ownBlock with
    | none => simp
    | some c =>
      rw [hv] at hne
      simp
      intro e
      exact hne (by rw [e])
theorem RP.us {w0 : World} {Rb : Nat} {vo : Value} {ops : List (Int × Int)} {sz mb : Nat} {vu vu' : Value} {us us' : List (Nat × List UInt8 × Nat × Nat)} {labs : List (List UInt8 × Nat)} {wx wy : World} (h : RP w0 Rb vo ops sz mb vu us labs wx)
    (ho : wy.ownsRow w0.heap.size 77 4 vu' us'.length (usesC us')) (hg : wx.grownBy wy vu.ownBlock) : RP w0 Rb vo ops sz mb vu' us' labs (wy.setCell ⟨Rb, 3, none⟩ vu') := by
  have h1 : RP w0 Rb vo ops sz mb vu [] labs wy → RP w0 Rb vo ops sz mb vu' us' labs (wy.setCell ⟨Rb, 3, none⟩ vu') := fun h2 => h2.set 3 _ rfl h2.oo ho
  have hb : wy.heap[Rb]? = some (.cells #[vo, .int .i64 (sz : Int), .map (some mb), vu] 38 (0, 0)) := grown_keep hg h.blk (own_ne h.ou h.blk (by decide))
  have hoo : wy.ownsRow w0.heap.size 53 2 vo ops.length (opsC ops) := h.oo.kept hg (by
    cases e : vo.ownBlock with
    | none => exact Or.inl rfl
    | some b => exact Or.inr fun e2 => own_apart h.oo h.ou (by decide) b e (by rw [← e2]))
  obtain ⟨n, D, ⟨es, clock, g1, g2⟩, g3⟩ := h.om
  have hom : ∃ n D, wy.ownsMap Tryd.prog 9 (plainElem Tryd.prog 3) mb n D ∧ LabOk labs D ∧ n ≤ labs.length := ⟨n, D, ⟨es, clock, grown_keep hg g1 (own_map h.ou g1), g2⟩, g3⟩
  have hbl : Below w0.heap.size w0 wy := h.bel.grown hg h.bel.size (fun b hb => (own_block h.ou b hb).1)
  have hk : Keep [Rb] wy (wy.setCell ⟨Rb, 3, none⟩ vu') := (Keep.refl _ _).setCell _ _ (Or.inl (by simp))
  have hne : ∀ {e : TypeId} {s m : Nat} {u : Value} {xs : List Value}, wy.ownsRow w0.heap.size e s u m xs → 38 ≠ e → ∀ b, u.ownBlock = some b → b ∉ [Rb] := fun hr ht b hb' hm => by
    have hbm : b = Rb := by simpa using hm
    rw [hbm] at hb'
    exact own_ne hr hb ht hb'
  clear h1
  obtain ⟨n, D, ⟨es, clock, g1, g2⟩, g3⟩ := hom
  have hmb : mb ≠ Rb := fun e => by rw [e, hb] at g1; cases g1
  exact ⟨by rw [heap_set hb]; rfl, own_keep hoo hk (hne hoo (by decide)), own_keep ho hk (hne ho (by decide)), ⟨n, D, ⟨es, clock, by rw [heap_set_other _ _ (fun e => hmb e.symm)]; exact g1, g2⟩, g3⟩, h.mb0, h.rb, hbl.setCell (p := ⟨Rb, 3, none⟩) h.rb _⟩
theorem RP.op {w0 : World} {Rb : Nat} {vo vo' : Value} {ops ops' : List (Int × Int)} {sz mb : Nat} {vu : Value} {us : List (Nat × List UInt8 × Nat × Nat)} {labs : List (List UInt8 × Nat)} {wx wy : World} (h : RP w0 Rb vo ops sz mb vu us labs wx)
    (ho : wy.ownsRow w0.heap.size 53 2 vo' ops'.length (opsC ops')) (hg : wx.grownBy wy vo.ownBlock) : RP w0 Rb vo' ops' sz mb vu us labs (wy.setCell ⟨Rb, 0, none⟩ vo') := by
  have hb : wy.heap[Rb]? = some (.cells #[vo, .int .i64 (sz : Int), .map (some mb), vu] 38 (0, 0)) := grown_keep hg h.blk (own_ne h.oo h.blk (by decide))
  have hou : wy.ownsRow w0.heap.size 77 4 vu us.length (usesC us) := h.ou.kept hg (by
    cases e : vu.ownBlock with
    | none => exact Or.inl rfl
    | some b => exact Or.inr fun e2 => own_apart h.ou h.oo (by decide) b e (by rw [← e2]))
  obtain ⟨n, D, ⟨es, clock, g1, g2⟩, g3⟩ := h.om
  have g1' := grown_keep hg g1 (own_map h.oo g1)
  have hbl : Below w0.heap.size w0 wy := h.bel.grown hg h.bel.size (fun b hb => (own_block h.oo b hb).1)
  have hk : Keep [Rb] wy (wy.setCell ⟨Rb, 0, none⟩ vo') := (Keep.refl _ _).setCell _ _ (Or.inl (by simp))
  have hne : ∀ {e : TypeId} {s m : Nat} {u : Value} {xs : List Value}, wy.ownsRow w0.heap.size e s u m xs → 38 ≠ e → ∀ b, u.ownBlock = some b → b ∉ [Rb] := fun hr ht b hb' hm => by
    have hbm : b = Rb := by simpa using hm
    rw [hbm] at hb'
    exact own_ne hr hb ht hb'
  have hmb : mb ≠ Rb := fun e => by rw [e, hb] at g1'; cases g1'
  exact ⟨by rw [heap_set hb]; rfl, own_keep ho hk (hne ho (by decide)), own_keep hou hk (hne hou (by decide)), ⟨n, D, ⟨es, clock, by rw [heap_set_other _ _ (fun e => hmb e.symm)]; exact g1', g2⟩, g3⟩, h.mb0, h.rb, hbl.setCell (p := ⟨Rb, 0, none⟩) h.rb _⟩
theorem usesC_snoc (l : List (Nat × List UInt8 × Nat × Nat)) (u : Nat × List UInt8 × Nat × Nat) : usesC (l ++ [u]) = usesC l ++ useC u := by simp [usesC]
theorem info_use : (Tryd.prog.info? 77).map (fun i => (i.zero, i.size, i.bytes)) = some (some (.agg #[.int .i64 0, .string ⟨#[]⟩, .int .i64 0, .int .i64 0]), 4, 40) := by kernel_rfl
set_option maxRecDepth 100000 in
set_option maxHeartbeats 4000000 in
theorem readIns_any {w0 : World} {Rb : Nat} {st : PS} (hT : TabE w0) (x : List UInt8) (hx : x.length ≤ 20000000) (p : Nat) (hp : p ≤ 20000000) (s : ByteArray) (hs : s.size ≤ 20000000) (a e : Nat) (hae : a ≤ e) (he : e ≤ s.size) (hsz : st.size ≤ 512) (hops : st.ops.length ≤ 512) (hus : st.us.length ≤ 512) {w : World} (h : RdAt w0 Rb st w) :
    Calls Tryd.prog 47 #[.pointer (some ⟨Rb, 0, none⟩), .agg #[.string (S x), .int .i64 (p : Int)], .agg #[.string s, .int .i64 (a : Int), .int .i64 (e : Int)]] w fun r w' => EndR w0 Rb (instV st ((x, p) :: tokV (cut s a e) a)) r w' := by
  have HOC : Hid (∀ w', Below w0.heap.size w0 w' → Calls Tryd.prog 63 #[.string (S x)] w' fun e w'' => e = .returned (opA (wordI x)) ∧ Below w'.heap.size w' w'') := fun w' hb => by
    have := opcode_any (S x) (hT.later hb).1
    simpa [S] using this
  have HGU : Hid (∀ e p w, Calls Tryd.prog 28 #[.int .i64 e, .int .i64 p] w fun r w' => r = .panicked (flt e p) ∧ Below w.heap.size w w') := giveUp_any
  have HRD : Hid (RdAt w0 Rb st w) := h
  obtain ⟨X, hX⟩ : ∃ X, S x = X := ⟨_, rfl⟩
  have hXs : X.size = x.length := by rw [← hX, S_size]
  obtain ⟨wa, hwa⟩ : ∃ wa, (w.alloc (.cells #[.string X, .int .i64 (p : Int)] 75)).alloc (.cells #[.string s, .int .i64 (a : Int), .int .i64 (e : Int)] 73) = wa := ⟨_, rfl⟩
  have HIW : Hid (IW w w.heap.size (w.heap.size + 1) X p s a e wa) := by
    rw [Hid, ← hwa]
    refine ⟨below_alloc (below_a1 _ _) _, heap_alloc2_new _ _ _, ?_, Nat.le_succ _⟩
    rw [Below.heap_alloc _ _ _ (by simp)]
    exact heap_alloc_new _ _
  rw [hX] at HOC
  rw [hX]
  have HWA : Hid ((w.alloc (.cells #[.string X, .int .i64 (p : Int)] 75)).alloc (.cells #[.string s, .int .i64 (a : Int), .int .i64 (e : Int)] 73) = wa) := hwa
  clear h hwa hX
  cases hw : wordI x with
  | none =>
    have HI : Hid (instV st ((x, p) :: tokV (cut s a e) a) = .error (9, p)) := by rw [Hid, instV, hw]
    rw [HI.out]
    rw [hw] at HOC
    simp only [opA] at HOC
    go_enter Tryd.func47, Tryd.ntmps47
    go_wp2_with fail
    rw [HWA.out]
    refine (HOC.out _ (HIW.out.b0 HRD.out)).mono ?_
    rintro e w2 ⟨rfl, hb2⟩
    have HI2 := HIW.out.later hb2
    have k1 : w2.cell? ⟨w.heap.size, 1, none⟩ = some (.int .i64 (p : Int)) := by rw [cell_at HI2.wd]; rfl
    go_wp2_with fail
    refine (HGU.out _ _ _).mono ?_
    rintro e w3 ⟨rfl, hb3⟩
    exact ⟨rfl, rfl, below_then (HI2.b0 HRD.out) hb3⟩
  | some c =>
    have hc : c ≤ 40 := by
      unfold wordI at hw
      have := (List.findIdx?_eq_some_iff_getElem.1 hw).1
      have hl : wordT.length = 41 := rfl
      omega
    rw [hw] at HOC
    simp only [opA] at HOC
    have HSO : Hid (∀ w', Below w0.heap.size w0 w' → Calls Tryd.prog 64 #[.agg #[.int .i64 (c : Int), .int .i64 0]] w' fun e w'' => e = .returned (.tuple #[.int .i64 ((1 + wdC c : Nat) : Int), .int .i64 0]) ∧ Below w'.heap.size w' w'') := fun w' hb => by
      have := sizeOf_any c hc 0 (hT.later hb).1
      rw [if_pos (lohi c)] at this
      exact this
    go_enter Tryd.func47, Tryd.ntmps47
    go_wp2_with fail
    rw [HWA.out]
    refine (HOC.out _ (HIW.out.b0 HRD.out)).mono ?_
    rintro e w2 ⟨rfl, hb2⟩
    have HI2 : Hid (IW w w.heap.size (w.heap.size + 1) X p s a e w2) := HIW.out.later hb2
    clear hb2
    obtain ⟨z, hz⟩ : ∃ z : Int, ((1 + wdC c : Nat) : Int) = z := ⟨_, rfl⟩
    rw [hz] at HSO
    have HZ : Hid (((1 + wdC c : Nat) : Int) = z) := hz
    clear hz
    go_wp2_with fail
    have HB3 : Hid (Below w2.heap.size w2 ((w2.alloc (.cells #[.int .i64 (c : Int), .int .i64 0] 53)).alloc (.cells #[.string ⟨#[]⟩, .int .i64 0] 75))) := below_alloc (below_a1 _ _) _
    have HON3 : Hid (ON w2.heap.size (w2.heap.size + 1) c 0 none ((w2.alloc (.cells #[.int .i64 (c : Int), .int .i64 0] 53)).alloc (.cells #[.string ⟨#[]⟩, .int .i64 0] 75))) :=
      ⟨by rw [Below.heap_alloc _ _ _ (by simp)]; exact heap_alloc_new _ _, heap_alloc2_new _ _ _⟩
    refine (HSO.out _ ((HI2.out.later HB3.out).b0 HRD.out)).mono ?_
    rintro e2 w3 ⟨rfl, hb3⟩
    have HI3 : Hid (IW w w.heap.size (w.heap.size + 1) X p s a e w3) := (HI2.out.later HB3.out).later hb3
    have HO3 : Hid (ON w2.heap.size (w2.heap.size + 1) c 0 none w3) := HON3.out.later hb3
    have HBO : Hid (w.heap.size + 1 < w2.heap.size) := heap_lt HI2.out.ln
    clear hb3 HB3 HON3 HI2 HSO HOC HIW HWA
    obtain ⟨Bo, hBo⟩ : ∃ Bo, w2.heap.size = Bo := ⟨_, rfl⟩
    obtain ⟨Bw, hBw⟩ : ∃ Bw, w.heap.size = Bw := ⟨_, rfl⟩
    rw [hBo] at HO3 HBO ⊢
    rw [hBw] at HI3 HBO ⊢
    have HBW : Hid (w.heap.size = Bw) := hBw
    clear hBo hBw
    go_upto_if 34 with fail
    go_cut [11] (fun _ wx => ∃ (a' : Nat) (v : Int) (nm : Option (List UInt8 × Nat)), a' ≤ e ∧ IW w Bw (Bw + 1) X p s a' e wx ∧ ON Bo (Bo + 1) c v nm wx ∧ instV st ((x, p) :: tokV (cut s a e) a) = moreV st p c v nm (tokV (cut s a' e) a') ∧ (∀ y q, nm = some (y, q) → y ≠ []))
    case first =>
      by_cases hwd : wdC c = 0
      · have HIN : Hid (instV st ((x, p) :: tokV (cut s a e) a) = moreV st p c 0 none (tokV (cut s a e) a)) := by rw [Hid, instV, hw]; simp only [hwd, if_true]
        have hzz : z = 1 := by rw [← HZ.out, hwd]; rfl
        subst hzz
        go_wp2
        go_meet
        exact ⟨a, 0, none, hae, HI3.out, HO3.out, HIN.out, fun _ _ h => by cases h⟩
      · have hzz : (1 : Int) < z := by rw [← HZ.out]; omega
        have hzd : decide ((1 : Int) < z) = true := by simp [hzz]
        have HNX : Hid (∀ w', IW w Bw (Bw + 1) X p s a e w' → Calls Tryd.prog 44 #[.pointer (some ⟨Bw + 1, 0, none⟩)] w' fun r w'' => r = .returned (.agg #[.string (s.extract (skB s a e) (skT s (skB s a e) e)), .int .i64 (skB s a e : Int)]) ∧ LnAt w'' (Bw + 1) s (skT s (skB s a e) e) e ∧ Keep [Bw + 1] w' w'') := fun w' h => next_any s (by omega) a e hae he h.ln
        have hxz : (X.size : Int) = (x.length : Int) := by rw [hXs]
        go_wp2_with fail
        refine (HNX.out _ HI3.out).mono ?_
        rintro e4 w4 ⟨rfl, hl4, hk4⟩
        have HI4 : Hid (IW w Bw (Bw + 1) X p s (skT s (skB s a e) e) e w4) := HI3.out.next hk4 hl4
        have HO4 : Hid (ON Bo (Bo + 1) c 0 none w4) := HO3.out.next HI3.out.ln hk4
        have hqb := sk_le s a e hae he
        rcases tok_next s a e hae he with ⟨t1, t2, t3, t4⟩ | ⟨t1, t2, t3⟩
        · have HIN : Hid (instV st ((x, p) :: tokV (cut s a e) a) = .error (9, p + x.length)) := by rw [Hid, instV, hw, t3]; simp only [hwd, if_false]
          rw [ext_S, t4]
          have hem : (S []).toList.isEmpty = true := by rw [ba_empty]; rfl
          have w0' : ∀ o, (w4.alloc o).cell? ⟨Bw, 0, none⟩ = some (.string X) := fun o => by rw [World.cell?_alloc_past _ _ _ (heap_lt HI4.out.wd), cell_at HI4.out.wd]; rfl
          have w1' : ∀ o, (w4.alloc o).cell? ⟨Bw, 1, none⟩ = some (.int .i64 (p : Int)) := fun o => by rw [World.cell?_alloc_past _ _ _ (heap_lt HI4.out.wd), cell_at HI4.out.wd]; rfl
          have hwp : wrap64 ((p : Int) + (X.size : Int)) = ((p + x.length : Nat) : Int) := by rw [hxz]; unfold wrap64; omega
          obtain ⟨px, hpx⟩ : ∃ px : Int, ((p + x.length : Nat) : Int) = px := ⟨_, rfl⟩
          rw [hpx] at hwp
          have HPX : Hid (((p + x.length : Nat) : Int) = px) := hpx
          generalize S [] = Y at *
          generalize skB s a e = q at *
          clear hl4 hk4 HI3 HO3 HNX t1 t2 t3 t4 hqb hpx hxz hXs
          go_wp2_with fail
          refine (HGU.out _ _ _).mono ?_
          rintro e5 w5 ⟨rfl, hb5⟩
          refine ⟨rfl, ?_⟩
          rw [HIN.out]
          exact ⟨by rw [← HPX.out], below_then (below_alloc (HI4.out.b0 HRD.out) _) hb5⟩
        · obtain ⟨y, hy⟩ : ∃ y, cut s (skB s a e) (skT s (skB s a e) e) = y := ⟨_, rfl⟩
          obtain ⟨q, hq⟩ : ∃ q, skB s a e = q := ⟨_, rfl⟩
          obtain ⟨a2, ha2⟩ : ∃ a2, skT s (skB s a e) e = a2 := ⟨_, rfl⟩
          have hqa := sk_le s (skB s a e) e hqb.2.1 he
          have hyl : y.length ≤ 20000000 := by rw [← hy, cut_len s _ _ hqa.2.2.1 (by omega)]; omega
          rw [ext_S]
          rw [hy] at t2 t3 ⊢
          rw [ha2] at HI4 t3 hqa
          rw [hq] at t3 hqa ⊢
          have HIN : Hid (instV st ((x, p) :: tokV (cut s a e) a) = match opdV c y q with
              | .error e => .error e
              | .ok (v, nm) => moreV st p c v nm (tokV (cut s a2 e) a2)) := by
            rw [Hid, instV, hw, t3]
            simp only [hwd, if_false]
            unfold opdV
            cases hl : (ldC c && nameV y) with
            | true => simp only [if_true]
            | false =>
              simp only [Bool.false_eq_true, if_false]
              cases numV y with
              | none => rfl
              | some v =>
                simp only
                split <;> rfl
          have HYN : Hid (∀ v y' q', opdV c y q = .ok (v, some (y', q')) → y' ≠ []) := fun v y' q' h => by
            unfold opdV at h
            split at h
            · simp only [Except.ok.injEq, Prod.mk.injEq, Option.some.injEq] at h
              rw [← h.2.1]; exact t2
            · split at h
              · cases h
              · split at h
                · simp at h
                · cases h
          have HA2 : Hid (a2 ≤ e) := hqa.2.2.2
          have hem : (S y).toList.isEmpty = false := by rw [ba_empty, S_size]; simp; exact t2
          have HRO : Hid (∀ w', Below w0.heap.size w0 w' → Calls Tryd.prog 65 #[.int .i64 (c : Int), .agg #[.string (S y), .int .i64 (q : Int)]] w' fun e w'' => EndO w' (opdV c y q) e w'') := fun w' hb => readOpd_any c hc y hyl q (hT.later hb)
          obtain ⟨Y, hY⟩ : ∃ Y, S y = Y := ⟨_, rfl⟩
          rw [hY] at hem HRO ⊢
          clear hl4 hk4 HI3 HO3 HNX t1 t2 t3 hqb hqa hy hq ha2 hyl hxz hXs
          go_wp2_with fail
          refine (HRO.out _ (below_alloc (HI4.out.b0 HRD.out) _)).mono ?_
          intro r5 w5 hr5
          cases hop : opdV c y q with
          | error er =>
            obtain ⟨er, pe⟩ := er
            rw [hop] at hr5
            obtain ⟨rfl, hb5⟩ := hr5
            refine ⟨rfl, ?_⟩
            rw [HIN.out, hop]
            exact ⟨rfl, below_then (below_alloc (HI4.out.b0 HRD.out) _) hb5⟩
          | ok vn =>
            obtain ⟨v, nm⟩ := vn
            rw [hop] at hr5
            obtain ⟨rfl, hb5⟩ := hr5
            have HIN2 : Hid (instV st ((x, p) :: tokV (cut s a e) a) = moreV st p c v nm (tokV (cut s a2 e) a2)) := by rw [Hid, HIN.out, hop]
            have HYN2 : Hid (∀ y' q', nm = some (y', q') → y' ≠ []) := fun y' q' h => HYN.out v y' q' (by rw [hop, h])
            have HI5 : Hid (IW w Bw (Bw + 1) X p s a2 e w5) := (HI4.out.later (below_a1 _ _)).later hb5
            have HO5 : Hid (ON Bo (Bo + 1) c 0 none w5) := (HO4.out.later (below_a1 _ _)).later hb5
            have o1 : w5.cell? ⟨Bo, 1, none⟩ = some (.int .i64 0) := by rw [cell_at HO5.out.op]; rfl
            have of1 : w5.frozen? ⟨Bo, 1, none⟩ = false := frozen_at HO5.out.op 1
            have n0 : w5.cell? ⟨Bo + 1, 0, none⟩ = some (.string ⟨#[]⟩) := by rw [cell_at HO5.out.nb]; rfl
            have n1 : w5.cell? ⟨Bo + 1, 1, none⟩ = some (.int .i64 0) := by rw [cell_at HO5.out.nb]; rfl
            have nf0 : w5.frozen? ⟨Bo + 1, 0, none⟩ = false := frozen_at HO5.out.nb 0
            have nf1 : w5.frozen? ⟨Bo + 1, 1, none⟩ = false := frozen_at HO5.out.nb 1
            obtain ⟨tn, ti, htn⟩ : ∃ tn ti, tokA nm = .agg #[.string tn, .int .i64 ti] ∧ tokCl nm = #[.string tn, .int .i64 ti] := by
              cases nm with
              | none => exact ⟨_, _, rfl, rfl⟩
              | some yq => exact ⟨_, _, rfl, rfl⟩
            have HTC : Hid (tokCl nm = #[.string tn, .int .i64 ti]) := htn.2
            rw [htn.1]
            clear hb5 htn hop HIN HYN HI4 HO4 HRO hem
            go_wp2
            go_meet
            have hbo := HBO.out
            have hbw := HBW.out
            refine ⟨a2, v, nm, HA2.out, ?_, ?_, HIN2.out, HYN2.out⟩
            · exact ((HI5.out.set Bo 1 _ (by omega) (by omega) (by omega)).set (Bo + 1) 0 _ (by omega) (by omega) (by omega)).set (Bo + 1) 1 _ (by omega) (by omega) (by omega)
            · refine ⟨?_, ?_⟩
              · rw [heap_set_other _ _ (by omega), heap_set_other _ _ (by omega), heap_set HO5.out.op]
                rfl
              · rw [heap_set (heap_set (by rw [heap_set_other _ _ (by omega)]; exact HO5.out.nb) 0 _) 1, HTC.out]
                rfl
    case rest =>
      obtain ⟨a3, v, nm, ha3, hiw, hon, hin, hyn⟩ := hcut
      have HI6 : Hid (IW w Bw (Bw + 1) X p s a3 e wc) := hiw
      have HO6 : Hid (ON Bo (Bo + 1) c v nm wc) := hon
      have HIN : Hid (instV st ((x, p) :: tokV (cut s a e) a) = moreV st p c v nm (tokV (cut s a3 e) a3)) := hin
      have HYN : Hid (∀ y q, nm = some (y, q) → y ≠ []) := hyn
      have HNX : Hid (∀ w', IW w Bw (Bw + 1) X p s a3 e w' → Calls Tryd.prog 44 #[.pointer (some ⟨Bw + 1, 0, none⟩)] w' fun r w'' => r = .returned (.agg #[.string (s.extract (skB s a3 e) (skT s (skB s a3 e) e)), .int .i64 (skB s a3 e : Int)]) ∧ LnAt w'' (Bw + 1) s (skT s (skB s a3 e) e) e ∧ Keep [Bw + 1] w' w'') := fun w' h => next_any s (by omega) a3 e ha3 he h.ln
      clear hiw hon hin hyn HI3 HO3
      go_wp2_with fail
      refine (HNX.out _ HI6.out).mono ?_
      rintro e7 w7 ⟨rfl, hl7, hk7⟩
      have HI7 : Hid (IW w Bw (Bw + 1) X p s (skT s (skB s a3 e) e) e w7) := HI6.out.next hk7 hl7
      have HO7 : Hid (ON Bo (Bo + 1) c v nm w7) := HO6.out.next HI6.out.ln hk7
      rcases tok_next s a3 e ha3 he with ⟨t1, t2, t3, t4⟩ | ⟨t1, t2, t3⟩
      · rw [ext_S, t4]
        have hem : (S []).toList.isEmpty = true := by rw [ba_empty]; rfl
        have HIN2 : Hid (instV st ((x, p) :: tokV (cut s a e) a) = moreV st p c v nm []) := by rw [Hid, HIN.out, t3]
        generalize S [] = Y at *
        generalize skB s a3 e = q at *
        clear hl7 hk7 t1 t2 t3 t4 HI6 HO6 HNX HIN
        have HI8 : Hid (IW w Bw (Bw + 1) X p s (skT s q e) e (w7.alloc (.cells #[.string Y, .int .i64 (q : Int)] 75))) := HI7.out.later (below_a1 _ _)
        have HO8 : Hid (ON Bo (Bo + 1) c v nm (w7.alloc (.cells #[.string Y, .int .i64 (q : Int)] 75))) := HO7.out.later (below_a1 _ _)
        obtain ⟨w8, hw8⟩ : ∃ w8, w7.alloc (.cells #[.string Y, .int .i64 (q : Int)] 75) = w8 := ⟨_, rfl⟩
        obtain ⟨vo, vu, mb, hrp⟩ := (HRD.out.later HI8.out.bel).parts
        rw [hw8] at HI8 HO8 hrp
        have HRP : Hid (RP w0 Rb vo st.ops st.size mb vu st.us st.labs w8) := hrp
        have r1 : w8.cell? ⟨Rb, 1, none⟩ = some (.int .i64 (st.size : Int)) := by rw [cell_at hrp.blk]; rfl
        have rf1 : w8.frozen? ⟨Rb, 1, none⟩ = false := frozen_at hrp.blk 1
        have wd1 : w8.cell? ⟨Bw, 1, none⟩ = some (.int .i64 (p : Int)) := by rw [cell_at HI8.out.wd]; rfl
        have m0 : w8.cell? ⟨w7.heap.size, 0, none⟩ = some (.string Y) := by rw [← hw8]; exact cell_at (heap_alloc_new _ _) 0
        have m1 : w8.cell? ⟨w7.heap.size, 1, none⟩ = some (.int .i64 (q : Int)) := by rw [← hw8]; exact cell_at (heap_alloc_new _ _) 1
        obtain ⟨sz2, hsz2⟩ : ∃ sz2 : Nat, st.size + (1 + wdC c) = sz2 := ⟨_, rfl⟩
        have hsz2' : (st.size : Int) + z = (sz2 : Int) := by rw [← HZ.out]; omega
        have hwz : wrap64 ((st.size : Int) + z) = (sz2 : Int) := by rw [hsz2']; have := wd_cases c; unfold wrap64; omega
        have HS2 : Hid (st.size + (1 + wdC c) = sz2) := hsz2
        clear hrp HI7 HO7 hsz2 hsz2'
        by_cases hfull : 512 < sz2
        · have hfd : decide ((512 : Int) < (sz2 : Int)) = true := by simp; omega
          have hfi : (512 : Int) < (sz2 : Int) := by omega
          have HIN3 : Hid (instV st ((x, p) :: tokV (cut s a e) a) = .error (2, p)) := by rw [Hid, HIN2.out]; simp only [moreV]; rw [if_pos (by rw [HS2.out]; exact hfull)]
          go_wp2_with fail
          refine (HGU.out _ _ _).mono ?_
          rintro e9 w9 ⟨rfl, hb9⟩
          refine ⟨rfl, ?_⟩
          rw [HIN3.out]
          exact ⟨rfl, below_then (HI8.out.b0 HRD.out) hb9⟩
        · have hfd : decide ((512 : Int) < (sz2 : Int)) = false := by simp; omega
          have hfi : ¬ (512 : Int) < (sz2 : Int) := by omega
          have HIN3 : Hid (instV st ((x, p) :: tokV (cut s a e) a) = .ok (addI st c v nm)) := by rw [Hid, HIN2.out]; simp only [moreV]; rw [if_neg (by rw [HS2.out]; exact hfull)]
          have HRP9 : Hid (RP w0 Rb vo st.ops sz2 mb vu st.us st.labs (w8.setCell ⟨Rb, 1, none⟩ (.int .i64 (sz2 : Int)))) := HRP.out.set 1 _ rfl HRP.out.oo HRP.out.ou
          have hRo : Rb ≠ Bo := ne_of_type HRP.out.blk HO8.out.op (by decide)
          have hRn : Rb ≠ Bo + 1 := ne_of_type HRP.out.blk HO8.out.nb (by decide)
          have HO9 : Hid (ON Bo (Bo + 1) c v nm (w8.setCell ⟨Rb, 1, none⟩ (.int .i64 (sz2 : Int)))) := ⟨by rw [heap_set_other _ _ hRo]; exact HO8.out.op, by rw [heap_set_other _ _ hRn]; exact HO8.out.nb⟩
          obtain ⟨tn, ti, htn⟩ : ∃ tn ti, tokCl nm = #[.string tn, .int .i64 ti] := by
            cases nm with
            | none => exact ⟨_, _, rfl⟩
            | some yq => exact ⟨_, _, rfl⟩
          have n0 : (w8.setCell ⟨Rb, 1, none⟩ (.int .i64 (sz2 : Int))).cell? ⟨Bo + 1, 0, none⟩ = some (.string tn) := by rw [cell_at HO9.out.nb, htn]; rfl
          have n1 : (w8.setCell ⟨Rb, 1, none⟩ (.int .i64 (sz2 : Int))).cell? ⟨Bo + 1, 1, none⟩ = some (.int .i64 ti) := by rw [cell_at HO9.out.nb, htn]; rfl
          have HTC : Hid (tokCl nm = #[.string tn, .int .i64 ti]) := htn
          clear htn HIN2
          obtain ⟨oa, oc, rfl⟩ := own_slice HRP9.out.oo
          obtain ⟨ua, uc, rfl⟩ := own_slice HRP9.out.ou
          have q0 : (w8.setCell ⟨Rb, 1, none⟩ (.int .i64 (sz2 : Int))).cell? ⟨Rb, 0, none⟩ = some (.slice oa st.ops.length oc) := by rw [cell_at HRP9.out.blk]; rfl
          have q1 : (w8.setCell ⟨Rb, 1, none⟩ (.int .i64 (sz2 : Int))).cell? ⟨Rb, 1, none⟩ = some (.int .i64 (sz2 : Int)) := by rw [cell_at HRP9.out.blk]; rfl
          have q3 : (w8.setCell ⟨Rb, 1, none⟩ (.int .i64 (sz2 : Int))).cell? ⟨Rb, 3, none⟩ = some (.slice ua st.us.length uc) := by rw [cell_at HRP9.out.blk]; rfl
          have qf3 : (w8.setCell ⟨Rb, 1, none⟩ (.int .i64 (sz2 : Int))).frozen? ⟨Rb, 3, none⟩ = false := frozen_at HRP9.out.blk 3
          go_upto_if 80 with fail
          obtain ⟨w9, hw9⟩ : ∃ w9, w8.setCell ⟨Rb, 1, none⟩ (.int .i64 (sz2 : Int)) = w9 := ⟨_, rfl⟩
          rw [hw9] at HRP9 HO9 n0 n1 q0 q1 q3 qf3 ⊢
          clear hw9 hw8 HRP HO8 HI8 r1 rf1 wd1 m0 m1 hwz hfd hfi
          go_cut [11] (fun _ wx => ∃ vu', RP w0 Rb (.slice oa st.ops.length oc) st.ops sz2 mb vu' (st.us ++ nuse st.ops.length sz2 nm) st.labs wx ∧ wx.heap[Bo]? = some (.cells #[.int .i64 (c : Int), .int .i64 v] 53 (0, 0)))
          case first =>
            cases nm with
            | none =>
              have htn : tn = ⟨#[]⟩ := by
                have := HTC.out
                simp [tokCl] at this
                exact this.1.symm
              have hem2 : tn.toList.isEmpty = true := by rw [htn, ba_empty]; rfl
              have hem3 : (!tn.toList.isEmpty) = false := by rw [hem2]; rfl
              rw [hem3]
              go_wp2
              go_meet
              exact ⟨_, by simp [nuse]; exact HRP9.out, HO9.out.op⟩
            | some yq =>
              obtain ⟨y, yp⟩ := yq
              have hyn := HYN.out y yp rfl
              obtain ⟨rfl, rfl⟩ : S y = tn ∧ (yp : Int) = ti := by
                have := HTC.out
                simpa [tokCl] using this
              have hem2 : (S y).toList.isEmpty = false := by rw [ba_empty, S_size]; simp; exact hyn
              have hem3 : (!(S y).toList.isEmpty) = true := by rw [hem2]; rfl
              obtain ⟨T, hT'⟩ : ∃ T, S y = T := ⟨_, rfl⟩
              have HTT : Hid (S y = T) := hT'
              rw [hT'] at hem2 hem3 n0 ⊢
              rw [hem3]
              clear hT'
              obtain ⟨i0, hi0, hz0, hz1, hz2⟩ := info_parts info_use
              have HL9 : Hid (Rb < w9.heap.size) := heap_lt HRP9.out.blk
              have hr0 : w0.heap.size ≤ w9.heap.size := HRP9.out.bel.size
              have hrne : (Value.slice ua st.us.length uc).ownBlock ≠ some Rb := own_ne HRP9.out.ou HRP9.out.blk (by decide)
              have hlr := HL9.out
              have HU9 : Hid (w9.ownsRow w0.heap.size 77 4 (.slice ua st.us.length uc) st.us.length (usesC st.us)) := HRP9.out.ou
              go_wp2_with fail
              have HCT : Hid (∀ vu' w10, w10.ownsRow w0.heap.size 77 4 vu' (st.us.length + 1) (usesC st.us ++ [.int .i64 (st.ops.length : Int), .string T, .int .i64 (yp : Int), .int .i64 (sz2 : Int)]) → ((w9.alloc (.cells #[.int .i64 (st.ops.length : Int), .string T, .int .i64 (yp : Int), .int .i64 (sz2 : Int)] 77)).drew).grownBy w10 (Value.slice ua st.us.length uc).ownBlock → ∃ vu'', RP w0 Rb (.slice oa st.ops.length oc) st.ops sz2 mb vu'' (st.us ++ nuse st.ops.length sz2 (some (y, yp))) st.labs (w10.setCell ⟨Rb, 3, none⟩ vu') ∧ (w10.setCell ⟨Rb, 3, none⟩ vu').heap[Bo]? = some (.cells #[.int .i64 (c : Int), .int .i64 v] 53 (0, 0))) := fun vu' w10 ho hg => by
                have hb : Below w9.heap.size w9 ((w9.alloc (.cells #[.int .i64 (st.ops.length : Int), .string T, .int .i64 (yp : Int), .int .i64 (sz2 : Int)] 77)).drew) := below_drawn (below_a1 _ _) 1
                refine ⟨vu', RP.us (HRP9.out.later hb) ?_ hg, ?_⟩
                · rw [nuse, usesC_snoc]
                  have e1 : useC (st.ops.length, y, yp, sz2) = [.int .i64 (st.ops.length : Int), .string T, .int .i64 (yp : Int), .int .i64 (sz2 : Int)] := by rw [← HTT.out]; rfl
                  rw [e1, List.length_append]
                  exact ho
                · rw [heap_set_other _ _ hRo]
                  refine grown_keep hg ?_ (own_ne HRP9.out.ou HO9.out.op (by decide))
                  rw [hb.block _ (heap_lt HO9.out.op)]
                  exact HO9.out.op
              clear HTC HZ hXs HBW HBO HS2 HIN3 HYN hyn hem hem2 hem3 HTT HRP9 HO9 hT hx hp hs hae he ha3 hsz HGU HRD hw hc hRo hRn
              go_region_law ((refine step_lies_wide _ (by rfl) _ _ _ (by rfl) w0.heap.size 77 i0 _ 4 40 Tryd.underlying36 hi0 hz0 hz1 hz2 rfl (by omega) (.slice ua st.us.length uc) st.us.length (usesC st.us) (by rfl) ((HU9.out.alloc _).drew) ⟨w9.heap.size, 0, none⟩ 1 1 [.int .i64 (st.ops.length : Int), .string T, .int .i64 (yp : Int), .int .i64 (sz2 : Int)] (by rfl) (by rfl) (World.news_of_block (cs := #[.int .i64 (st.ops.length : Int), .string T, .int .i64 (yp : Int), .int .i64 (sz2 : Int)]) (t := 77) (fr := (0, 0)) (heap_alloc_new w9 _)) (by simp [Value.oneCell']) (by omega) (by unfold maxLen; omega) (by omega) (by simp; omega) (w9.heap.size + 1) (by simp) ?_; intro gg cap' w10 hown1 hgrow hat hlt2; have hs1 : w10.cell? ⟨Rb, 3, none⟩ = some (.slice ua st.us.length uc) := (by rw [hgrow.cell_far _ (by simp; omega) (Ne.symm hrne)]; simp [hlr, World.cell?_alloc_past, q3]); have hs2 : w10.frozen? ⟨Rb, 3, none⟩ = false := (by rw [hgrow.frozen_far _ (by simp; omega) (Ne.symm hrne)]; exact (World.frozen?_alloc_past _ _ _ hlr).trans qf3)))
              all_goals (go_wp2_with fail; go_meet; exact HCT.out _ _ hown1 hgrow)
          case rest =>
            obtain ⟨vu', hrp, hop⟩ := hcut
            have HRP10 : Hid (RP w0 Rb (.slice oa st.ops.length oc) st.ops sz2 mb vu' (st.us ++ nuse st.ops.length sz2 nm) st.labs wc) := hrp
            have HOP : Hid (wc.heap[Bo]? = some (.cells #[.int .i64 (c : Int), .int .i64 v] 53 (0, 0))) := hop
            have p0 : wc.cell? ⟨Bo, 0, none⟩ = some (.int .i64 (c : Int)) := by rw [cell_at hop]; rfl
            have p1 : wc.cell? ⟨Bo, 1, none⟩ = some (.int .i64 v) := by rw [cell_at hop]; rfl
            have z0 : wc.cell? ⟨Rb, 0, none⟩ = some (.slice oa st.ops.length oc) := by rw [cell_at hrp.blk]; rfl
            have zf0 : wc.frozen? ⟨Rb, 0, none⟩ = false := frozen_at hrp.blk 0
            have HO10 : Hid (wc.ownsRow w0.heap.size 53 2 (.slice oa st.ops.length oc) st.ops.length (opsC st.ops)) := hrp.oo
            obtain ⟨i0, hi0, hz0, hz1, hz2⟩ := info_parts info_op
            have hlr : Rb < wc.heap.size := heap_lt hrp.blk
            have hr0 : w0.heap.size ≤ wc.heap.size := hrp.bel.size
            have hrne : (Value.slice oa st.ops.length oc).ownBlock ≠ some Rb := own_ne hrp.oo hrp.blk (by decide)
            have HEND : Hid (∀ vo' w11, w11.ownsRow w0.heap.size 53 2 vo' (st.ops.length + 1) (opsC st.ops ++ [.int .i64 (c : Int), .int .i64 v]) → ((wc.alloc (.cells #[.int .i64 (c : Int), .int .i64 v] 53)).drew).grownBy w11 (Value.slice oa st.ops.length oc).ownBlock → EndR w0 Rb (instV st ((x, p) :: tokV (cut s a e) a)) (.returned (.tuple #[])) (w11.setCell ⟨Rb, 0, none⟩ vo')) := fun vo' w11 ho hg => by
              have hb : Below wc.heap.size wc ((wc.alloc (.cells #[.int .i64 (c : Int), .int .i64 v] 53)).drew) := below_drawn (below_a1 _ _) 1
              have hR : RP w0 Rb vo' (st.ops ++ [((c : Int), v)]) sz2 mb vu' (st.us ++ nuse st.ops.length sz2 nm) st.labs (w11.setCell ⟨Rb, 0, none⟩ vo') := RP.op (HRP10.out.later hb) (by rw [opsC_snoc, List.length_append]; exact ho) hg
              rw [HIN3.out]
              have h2 := HS2.out
              refine ⟨rfl, RP.whole (st := addI st c v nm) (vo := vo') (vu := vu') (mb := mb) ?_⟩
              unfold addI
              rw [h2]
              exact hR
            clear hrp hop HRP10 HOP HIN3 HS2
            go_wp2_with fail
            go_region_law ((refine step_lies_wide _ (by rfl) _ _ _ (by rfl) w0.heap.size 53 i0 _ 2 16 Tryd.underlying28 hi0 hz0 hz1 hz2 rfl (by omega) (.slice oa st.ops.length oc) st.ops.length (opsC st.ops) (by rfl) ((HO10.out.alloc _).drew) ⟨wc.heap.size, 0, none⟩ 1 1 [.int .i64 (c : Int), .int .i64 v] (by rfl) (by rfl) (World.news_of_block (cs := #[.int .i64 (c : Int), .int .i64 v]) (t := 53) (fr := (0, 0)) (heap_alloc_new wc _)) (by simp [Value.oneCell']) (by omega) (by unfold maxLen; omega) (by omega) (by simp; omega) (wc.heap.size + 1) (by simp) ?_; intro gg cap' w11 hown1 hgrow hat hlt2; have hs1 : w11.cell? ⟨Rb, 0, none⟩ = some (.slice oa st.ops.length oc) := (by rw [hgrow.cell_far _ (by simp; omega) (Ne.symm hrne)]; simp [hlr, World.cell?_alloc_past, z0]); have hs2 : w11.frozen? ⟨Rb, 0, none⟩ = false := (by rw [hgrow.frozen_far _ (by simp; omega) (Ne.symm hrne)]; exact (World.frozen?_alloc_past _ _ _ hlr).trans zf0)))
            all_goals (go_wp2_with fail; go_end0; exact HEND.out _ _ hown1 hgrow)
      · rw [ext_S]
        have hem : (S (cut s (skB s a3 e) (skT s (skB s a3 e) e))).toList.isEmpty = false := by rw [ba_empty, S_size]; simp; exact t2
        have HIN2 : Hid (instV st ((x, p) :: tokV (cut s a e) a) = .error (9, skB s a3 e)) := by rw [Hid, HIN.out, t3]; rfl
        generalize S (cut s (skB s a3 e) (skT s (skB s a3 e) e)) = Y at *
        clear hl7 hk7 t1 t2 t3 HI6 HO6 HNX HIN
        generalize skB s a3 e = q at *
        go_wp2_with fail
        refine (HGU.out _ _ _).mono ?_
        rintro e8 w8 ⟨rfl, hb8⟩
        refine ⟨rfl, ?_⟩
        rw [HIN2.out]
        exact ⟨rfl, below_then (below_alloc (HI7.out.b0 HRD.out) _) hb8⟩
end Go.Proofs.YtbjopdmchmekpaaDoor
