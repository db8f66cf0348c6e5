/- The next token of a line. -/
import Derived.Test.YtbjopdmchmekpaaDoorAsI
import Derived.Deep.CutBlock
import Derived.Deep.DeepCutAuto
namespace Go.Proofs.YtbjopdmchmekpaaDoor
open Go.ChangeShapes Go.WideShapes Go.ChangeAt Go.RowKit

/-- What is still to be read of a line lies in a block. -/
def LnAt (w : World) (B : Nat) (s : ByteArray) (a e : Nat) : Prop := w.heap[B]? = some (.cells #[.string s, .int .i64 (a : Int), .int .i64 (e : Int)] 73 (0, 0))
theorem LnAt.later {w w' : World} {B : Nat} {s : ByteArray} {a e : Nat} (h : LnAt w B s a e) (k : Below w.heap.size w w') : LnAt w' B s a e := by unfold LnAt; rw [k.block _ (heap_lt h)]; exact h
/-- The bytes of a text from a place up to another. -/
def cut (s : ByteArray) (a e : Nat) : List UInt8 := (s.data.toList.take e).drop a
theorem cut_cons (s : ByteArray) (a e : Nat) (h : a < e) (he : e ≤ s.size) : cut s a e = s[a]'(by omega) :: cut s (a + 1) e := by
  unfold cut
  have hl : a < (s.data.toList.take e).length := by rw [List.length_take, ba_len]; omega
  rw [List.drop_eq_getElem_cons hl]
  congr 1
  rw [List.getElem_take]
  rfl
theorem cut_nil (s : ByteArray) (a e : Nat) (h : e ≤ a) : cut s a e = [] := by
  unfold cut
  rw [List.drop_eq_nil_of_le (by rw [List.length_take]; omega)]
theorem cut_len (s : ByteArray) (a e : Nat) (h : a ≤ e) (he : e ≤ s.size) : (cut s a e).length = e - a := by
  unfold cut
  rw [List.length_drop, List.length_take, ba_len]
  omega
/-- Where blanks end; where a token ends. -/
def skB (s : ByteArray) (a e : Nat) : Nat := a + ((cut s a e).takeWhile isB).length
def skT (s : ByteArray) (a e : Nat) : Nat := a + ((cut s a e).takeWhile nB).length
theorem skB_step (s : ByteArray) (a e : Nat) (h : a < e) (he : e ≤ s.size) : skB s a e = if isB (s[a]'(by omega)) then skB s (a + 1) e else a := by
  unfold skB
  rw [cut_cons s a e h he, List.takeWhile_cons]
  split
  · simp; omega
  · simp
theorem skT_step (s : ByteArray) (a e : Nat) (h : a < e) (he : e ≤ s.size) : skT s a e = if isB (s[a]'(by omega)) then a else skT s (a + 1) e := by
  unfold skT
  rw [cut_cons s a e h he, List.takeWhile_cons]
  cases hb : isB (s[a]'(by omega)) with
  | true => simp [nB, hb]
  | false => simp [nB, hb]; omega
theorem skB_end (s : ByteArray) (a e : Nat) (h : e ≤ a) : skB s a e = a := by unfold skB; rw [cut_nil s a e h]; simp
theorem skT_end (s : ByteArray) (a e : Nat) (h : e ≤ a) : skT s a e = a := by unfold skT; rw [cut_nil s a e h]; simp
theorem sk_le (s : ByteArray) (a e : Nat) (h : a ≤ e) (he : e ≤ s.size) : a ≤ skB s a e ∧ skB s a e ≤ e ∧ a ≤ skT s a e ∧ skT s a e ≤ e := by
  have h1 := (List.takeWhile_sublist isB (l := cut s a e)).length_le
  have h2 := (List.takeWhile_sublist nB (l := cut s a e)).length_le
  rw [cut_len s a e h he] at h1 h2
  unfold skB skT
  omega
theorem LnAt.step {w : World} {B : Nat} {s : ByteArray} {p e : Nat} (h : LnAt w B s p e) (n : Nat) : LnAt ((w.drewN n).setCell ⟨B, 1, none⟩ (.int .i64 ((p : Int) + 1))) B s (p + 1) e := by
  unfold LnAt
  rw [heap_set (w := w.drewN n) h]
  simp
theorem LnAt.drawn {w : World} {B : Nat} {s : ByteArray} {p e : Nat} (h : LnAt w B s p e) (n : Nat) : LnAt (w.drewN n) B s p e := h
theorem LnAt.meas {w w' : World} {B : Nat} {s : ByteArray} {p e : Nat} (h : LnAt w B s p e) (h' : LnAt w' B s (p + 1) e) (hlt : p < e) :
    e - (intOf ((w'.cell? ⟨B, 1, none⟩).getD (.bool false))).toNat < e - (intOf ((w.cell? ⟨B, 1, none⟩).getD (.bool false))).toNat := by
  rw [cell_at h, cell_at h']
  show e - (((p + 1 : Nat) : Int)).toNat < e - (p : Int).toNat
  omega
theorem tok_end {w w' : World} {B X : Nat} {o : Obj} (hx : w.heap[X]? = some o) (hne : B ≠ X) (k : Keep [B] w w') : w'.heap[X]? = some o := by
  rw [k.block _ (heap_lt hx) (by simp; exact fun e => hne e.symm)]
  exact hx
theorem ret_tok {fn : Func} {p : Tmp} {R : Ending → World → Prop} {a : Act} {w : World} {g : Nat} {cs : Array Value} (h : fn.results = #[.cell p 75]) (hp : a.tmps.getD p undef = .pointer (some ⟨g, 0, none⟩))
    (hg : w.heap[g]? = some (.cells cs 75 (0, 0))) (hz : cs.size = 2) (hd : a.defers = []) (hR : R (.returned (.agg cs)) w) : bodyPost Tryd.prog fn R .ret a w := by
  refine bodyPost_ret (v := .agg cs) ?_ hd hR
  have hp' : a.tmps[p]?.getD undef = .pointer (some ⟨g, 0, none⟩) := by simpa using hp
  have hl := run_loadVar_row (P := Tryd.prog) w g 75 75 cs (0, 0) _ hg Tryd.underlying75 rfl (by rw [hz]; kernel_rfl)
  simp [results, h, hp', asAddr, hl]
theorem next_any (s : ByteArray) (hs : s.size ≤ 1000000000) (a e : Nat) (hae : a ≤ e) (he : e ≤ s.size) {w : World} {B : Nat} (h : LnAt w B s a e) :
    Calls Tryd.prog 44 #[.pointer (some ⟨B, 0, none⟩)] w fun r w' => r = .returned (.agg #[.string (s.extract (skB s a e) (skT s (skB s a e) e)), .int .i64 (skB s a e : Int)]) ∧ LnAt w' B s (skT s (skB s a e) e) e ∧ Keep [B] w w' := by
  have HP : Hid (∀ (b : UInt8) w, Calls Tryd.prog 59 #[.int .u8 b.toNat] w fun e w' => e = .returned (.bool (isB b)) ∧ w' = w) := parts_any
  have HL : Hid (LnAt w B s a e) := h
  obtain ⟨q, hq⟩ : ∃ q, skB s a e = q := ⟨_, rfl⟩
  have HQ : Hid (skB s a e = q) := hq
  obtain ⟨r, hr⟩ : ∃ r, skT s q e = r := ⟨_, rfl⟩
  have HR : Hid (skT s q e = r) := hr
  rw [hq, hr]
  have hBw := heap_lt h
  clear h hq hr
  go_enter Tryd.func44, Tryd.ntmps44
  go_upto_block 0 with fail
  obtain ⟨X, hX⟩ : ∃ X, w.heap.size = X := ⟨_, rfl⟩
  have HS : Hid (LnAt (w.alloc (.cells #[.string ⟨#[]⟩, .int .i64 0] 75)) B s a e ∧ (w.alloc (.cells #[.string ⟨#[]⟩, .int .i64 0] 75)).heap[X]? = some (.cells #[.string ⟨#[]⟩, .int .i64 0] 75 (0, 0)) ∧ Keep [B] w (w.alloc (.cells #[.string ⟨#[]⟩, .int .i64 0] 75))) :=
    ⟨HL.out.later (below_a1 _ _), by rw [← hX]; exact heap_alloc_new _ _, (Keep.refl _ _).alloc _⟩
  obtain ⟨w0, hw0⟩ : ∃ w0, w.alloc (.cells #[.string ⟨#[]⟩, .int .i64 0] 75) = w0 := ⟨_, rfl⟩
  rw [hw0] at HS ⊢
  rw [hX]
  rw [hX] at hBw
  have HX : Hid (w.heap.size = X) := hX
  clear hw0 hX HL
  go_cut [7] (fun _ wx => LnAt wx B s q e ∧ wx.heap[X]? = some (.cells #[.string ⟨#[]⟩, .int .i64 0] 75 (0, 0)) ∧ Keep [B] w wx)
  case first =>
    go_wp2_with fail
    go_loopw [7] (fun _ wr => ∃ p : Nat, p ≤ e ∧ skB s p e = q ∧ LnAt wr B s p e ∧ wr.heap[X]? = some (.cells #[.string ⟨#[]⟩, .int .i64 0] 75 (0, 0)) ∧ Keep [B] w wr) (fun _ wr => e - (intOf ((wr.cell? ⟨B, 1, none⟩).getD (.bool false))).toNat)
    case atStart => exact ⟨a, hae, HQ.out, HS.out⟩
    case round =>
      obtain ⟨p, hp, hpq, hln, hxb, hk⟩ := hrel
      have HLN : Hid (LnAt wr B s p e) := hln
      have HXB : Hid (wr.heap[X]? = some (.cells #[.string ⟨#[]⟩, .int .i64 0] 75 (0, 0))) := hxb
      have HK : Hid (Keep [B] w wr) := hk
      have HPQ : Hid (skB s p e = q) := hpq
      have c0 : wr.cell? ⟨B, 0, none⟩ = some (.string s) := by rw [cell_at hln]; rfl
      have c1 : wr.cell? ⟨B, 1, none⟩ = some (.int .i64 (p : Int)) := by rw [cell_at hln]; rfl
      have c2 : wr.cell? ⟨B, 2, none⟩ = some (.int .i64 (e : Int)) := by rw [cell_at hln]; rfl
      have cf : wr.frozen? ⟨B, 1, none⟩ = false := frozen_at hln 1
      clear hpq hln hxb hk HS
      by_cases hlt : p < e
      · have hd : decide ((p : Int) < (e : Int)) = true := by simp; omega
        have hps : p < s.size := by omega
        have HP1 : Hid (∀ w, Calls Tryd.prog 59 #[.int .u8 s[p].toNat] w fun e w' => e = .returned (.bool (isB s[p])) ∧ w' = w) := HP.out s[p]
        have HST : Hid (skB s p e = if isB s[p] then skB s (p + 1) e else p) := skB_step s p e hlt he
        cases hb : isB s[p] with
        | true =>
          rw [hb] at HP1
          have HQ2 : Hid (skB s (p + 1) e = q) := by rw [Hid, ← HPQ.out, HST.out, hb]; rfl
          have hw1 : wrap64 ((p : Int) + 1) = (p : Int) + 1 := by unfold wrap64; omega
          clear HST
          go_wp2_with fail
          go_quiet ((go_at_call 59; refine Calls.quiet_of_same (HP1.out _)))
          go_wp2
          go_roundw
          case rel => exact ⟨p + 1, hlt, HQ2.out, HLN.out.step nq, by rw [heap_set_other _ _ (by omega)]; exact HXB.out, (HK.out.drewN nq).setCell _ _ (Or.inl (by simp))⟩
          case measure => exact HLN.out.meas (HLN.out.step nq) hlt
        | false =>
          rw [hb] at HP1
          have hpq : p = q := by rw [← HPQ.out, HST.out, hb]; rfl
          subst hpq
          clear HST
          go_wp2_with fail
          go_quiet ((go_at_call 59; refine Calls.quiet_of_same (HP1.out _)))
          go_wp2
          go_meet
          exact ⟨HLN.out, HXB.out, HK.out.drewN nq⟩
      · have hd : decide ((p : Int) < (e : Int)) = false := by simp; omega
        have hpq : p = q := by rw [← HPQ.out, skB_end s p e (by omega)]
        subst hpq
        go_wp2_with fail
        go_quiet (fail)
        go_wp2
        go_meet
        exact ⟨HLN.out, HXB.out, HK.out.drewN nq⟩
  case rest =>
    obtain ⟨hln, hxb, hk⟩ := hcut
    have HS2 : Hid (LnAt wc B s q e ∧ wc.heap[X]? = some (.cells #[.string ⟨#[]⟩, .int .i64 0] 75 (0, 0)) ∧ Keep [B] w wc) := ⟨hln, hxb, hk⟩
    have c1 : wc.cell? ⟨B, 1, none⟩ = some (.int .i64 (q : Int)) := by rw [cell_at hln]; rfl
    have hqe : q ≤ e := by rw [← HQ.out]; exact (sk_le s a e hae he).2.1
    clear hln hxb hk HS
    go_upto_block 2 with fail
    go_cut [39] (fun _ wx => LnAt wx B s r e ∧ wx.heap[X]? = some (.cells #[.string ⟨#[]⟩, .int .i64 0] 75 (0, 0)) ∧ Keep [B] w wx)
    case first =>
      clear c1
      go_wp2_with fail
      go_loopw [39] (fun _ wr => ∃ p : Nat, p ≤ e ∧ skT s p e = r ∧ LnAt wr B s p e ∧ wr.heap[X]? = some (.cells #[.string ⟨#[]⟩, .int .i64 0] 75 (0, 0)) ∧ Keep [B] w wr) (fun _ wr => e - (intOf ((wr.cell? ⟨B, 1, none⟩).getD (.bool false))).toNat)
      case atStart => exact ⟨q, hqe, HR.out, HS2.out⟩
      case round =>
        obtain ⟨p, hp, hpq, hln, hxb, hk⟩ := hrel
        have HLN : Hid (LnAt wr B s p e) := hln
        have HXB : Hid (wr.heap[X]? = some (.cells #[.string ⟨#[]⟩, .int .i64 0] 75 (0, 0))) := hxb
        have HK : Hid (Keep [B] w wr) := hk
        have HPQ : Hid (skT s p e = r) := hpq
        have c0 : wr.cell? ⟨B, 0, none⟩ = some (.string s) := by rw [cell_at hln]; rfl
        have c1 : wr.cell? ⟨B, 1, none⟩ = some (.int .i64 (p : Int)) := by rw [cell_at hln]; rfl
        have c2 : wr.cell? ⟨B, 2, none⟩ = some (.int .i64 (e : Int)) := by rw [cell_at hln]; rfl
        have cf : wr.frozen? ⟨B, 1, none⟩ = false := frozen_at hln 1
        clear hpq hln hxb hk HS2
        by_cases hlt : p < e
        · have hd : decide ((p : Int) < (e : Int)) = true := by simp; omega
          have hps : p < s.size := by omega
          have HP1 : Hid (∀ w, Calls Tryd.prog 59 #[.int .u8 s[p].toNat] w fun e w' => e = .returned (.bool (isB s[p])) ∧ w' = w) := HP.out s[p]
          have HST : Hid (skT s p e = if isB s[p] then p else skT s (p + 1) e) := skT_step s p e hlt he
          cases hb : isB s[p] with
          | false =>
            rw [hb] at HP1
            have HQ2 : Hid (skT s (p + 1) e = r) := by rw [Hid, ← HPQ.out, HST.out, hb]; rfl
            have hw1 : wrap64 ((p : Int) + 1) = (p : Int) + 1 := by unfold wrap64; omega
            clear HST
            go_wp2_with fail
            go_quiet ((go_at_call 59; refine Calls.quiet_of_same (HP1.out _)))
            go_wp2
            go_roundw
            case rel => exact ⟨p + 1, hlt, HQ2.out, HLN.out.step nq, by rw [heap_set_other _ _ (by omega)]; exact HXB.out, (HK.out.drewN nq).setCell _ _ (Or.inl (by simp))⟩
            case measure => exact HLN.out.meas (HLN.out.step nq) hlt
          | true =>
            rw [hb] at HP1
            have hpq : p = r := by rw [← HPQ.out, HST.out, hb]; rfl
            subst hpq
            clear HST
            go_wp2_with fail
            go_quiet ((go_at_call 59; refine Calls.quiet_of_same (HP1.out _)))
            go_wp2
            go_meet
            exact ⟨HLN.out, HXB.out, HK.out.drewN nq⟩
        · have hd : decide ((p : Int) < (e : Int)) = false := by simp; omega
          have hpq : p = r := by rw [← HPQ.out, skT_end s p e (by omega)]
          subst hpq
          go_wp2_with fail
          go_quiet (fail)
          go_wp2
          go_meet
          exact ⟨HLN.out, HXB.out, HK.out.drewN nq⟩
    case rest =>
      obtain ⟨hln, hxb, hk⟩ := hcut
      have HS3 : Hid (LnAt wc B s r e ∧ wc.heap[X]? = some (.cells #[.string ⟨#[]⟩, .int .i64 0] 75 (0, 0)) ∧ Keep [B] w wc) := ⟨hln, hxb, hk⟩
      have d0 : wc.cell? ⟨B, 0, none⟩ = some (.string s) := by rw [cell_at hln]; rfl
      have d1 : wc.cell? ⟨B, 1, none⟩ = some (.int .i64 (r : Int)) := by rw [cell_at hln]; rfl
      have hqr : q ≤ r ∧ r ≤ e := by rw [← HR.out]; exact (sk_le s q e hqe he).2.2
      have x0 : wc.cell? ⟨X, 0, none⟩ = some (.string ⟨#[]⟩) := by rw [cell_at hxb]; rfl
      have x1 : wc.cell? ⟨X, 1, none⟩ = some (.int .i64 0) := by rw [cell_at hxb]; rfl
      have f0 : wc.frozen? ⟨X, 0, none⟩ = false := frozen_at hxb 0
      have f1 : wc.frozen? ⟨X, 1, none⟩ = false := frozen_at hxb 1
      have hrs : r ≤ s.size := by omega
      clear hln hxb hk HS2
      go_wp2_with fail
      go_region
      all_goals
        go_wp2
        refine ret_tok rfl rfl (g := X) (cs := #[.string (s.extract q r), .int .i64 (q : Int)]) ?_ rfl rfl ⟨rfl, ?_, ?_⟩
        · show ((wc.setCell ⟨X, 0, none⟩ (.string (s.extract q r))).setCell ⟨X, 1, none⟩ (.int .i64 (q : Int))).heap[X]? = _
          rw [heap_set (heap_set HS3.out.2.1 0 _) 1]
          rfl
        · show ((wc.setCell ⟨X, 0, none⟩ (.string (s.extract q r))).setCell ⟨X, 1, none⟩ (.int .i64 (q : Int))).heap[B]? = _
          rw [heap_set_other _ _ (by omega), heap_set_other _ _ (by omega)]
          exact HS3.out.1
        · exact ((HS3.out.2.2.setCell _ _ (Or.inr (by rw [HX.out]; exact Nat.le_refl _))).setCell _ _ (Or.inr (by rw [HX.out]; exact Nat.le_refl _))).drewN 1
end Go.Proofs.YtbjopdmchmekpaaDoor
