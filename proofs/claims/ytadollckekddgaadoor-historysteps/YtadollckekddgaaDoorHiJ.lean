/- An event is taken. -/
import Derived.Test.YtadollckekddgaaDoorHiH
import Derived.Test.YtadollckekddgaaDoorHiI
namespace Go.Proofs.YtadollckekddgaaDoor.Hi
open Go.ChangeShapes Go.WideShapes Go.ChangeAt Go.RowKit
set_option linter.unusedVariables false
set_option maxRecDepth 100000

theorem ev_info (e : Ev) : (Tryd.prog.info? 39).map (·.size) = some (evA e).size := by
  have h : (Tryd.prog.info? 39).map (·.size) = some 19 := by kernel_rfl
  rw [h]; rfl
/-- What an event makes of all. -/
def SubR (w' : World) (B P k : Nat) (o : Option Pa) (y : Bool) : Prop := match o with
  | some q => y = true ∧ ∃ b V vt vp, PAt w' B P (k + 1) q b V vt vp
  | none => y = false
def SubQ (wx : World) (B P k : Nat) (o : Option Pa) (x : Ending) (w' : World) : Prop := ∃ y : Bool, x = .returned (.bool y) ∧ SubR w' B P k o y ∧ Below B wx w'
theorem sub_open {w : World} {B P k : Nat} {p : Pa} {b : Nat → Nat} {V : Nat → Value} {vt vp : Value} (h : PAt w B P k p b V vt vp) (hB : B ≤ w.heap.size) (hkb : k ≤ 925925926000) (e : Ev) : Calls Tryd.prog 31 #[ptr P, evV e] w (SubQ w B P k (openD p e)) := by
  by_cases hs : e.tx = (p.txs.length : Int)
  · refine (open_yes h hB hkb e hs).mono ?_
    rintro x w' ⟨rfl, ⟨b', V', v', hp⟩, hb⟩
    exact ⟨true, rfl, by unfold SubR openD; rw [if_pos hs]; exact ⟨rfl, b', V', v', vp, hp⟩, hb⟩
  · refine (open_no h e hs).mono ?_
    rintro x w' ⟨rfl, hk⟩
    exact ⟨false, rfl, by unfold SubR openD; rw [if_neg hs], hk.below hB (fun x hx => by simp at hx)⟩
theorem sub_begin {w : World} {B P k : Nat} {p : Pa} {b : Nat → Nat} {V : Nat → Value} {vt vp : Value} (h : PAt w B P k p b V vt vp) (hB : B ≤ w.heap.size) {i : Nat} (hi : i < p.txs.length) (e : Ev) : Calls Tryd.prog 32 #[ptr (b i), evV e] w (SubQ w B P k ((beginD (nt p.txs i) e).map (p.upd i))) := by
  by_cases hs : (nt p.txs i).sg = 0
  · refine (begin_yes h hi e hs).mono ?_
    rintro x w' ⟨rfl, hp, hk⟩
    exact ⟨true, rfl, by unfold SubR beginD; rw [if_pos hs]; exact ⟨rfl, b, V, vt, vp, hp.more (Nat.le_succ k)⟩, hk.below hB (fun x hx => by simp at hx; subst hx; exact h.bB i hi)⟩
  · refine (begin_no h hi e hs).mono ?_
    rintro x w' ⟨rfl, hk⟩
    exact ⟨false, rfl, by unfold SubR beginD; rw [if_neg hs]; rfl, hk.below hB (fun x hx => by simp at hx; subst hx; exact h.bB i hi)⟩
theorem sub_end {w : World} {B P k : Nat} {p : Pa} {b : Nat → Nat} {V : Nat → Value} {vt vp : Value} (h : PAt w B P k p b V vt vp) (hB : B ≤ w.heap.size) {i : Nat} (hi : i < p.txs.length) (e : Ev) : Calls Tryd.prog 36 #[ptr (b i), evV e] w (SubQ w B P k ((endD (nt p.txs i) e).map (p.upd i))) := by
  by_cases hs : (nt p.txs i).sg = 1
  · refine (end_yes h hi e hs).mono ?_
    rintro x w' ⟨rfl, hp, hk⟩
    exact ⟨true, rfl, by unfold SubR endD; rw [if_pos hs]; exact ⟨rfl, b, V, vt, vp, hp.more (Nat.le_succ k)⟩, hk.below hB (fun x hx => by simp at hx; subst hx; exact h.bB i hi)⟩
  · refine (end_no h hi e hs).mono ?_
    rintro x w' ⟨rfl, hk⟩
    exact ⟨false, rfl, by unfold SubR endD; rw [if_neg hs]; rfl, hk.below hB (fun x hx => by simp at hx; subst hx; exact h.bB i hi)⟩
theorem sub_touch {w : World} {B P k : Nat} {p : Pa} {b : Nat → Nat} {V : Nat → Value} {vt vp : Value} (h : PAt w B P k p b V vt vp) (hB : B ≤ w.heap.size) (hkb : k ≤ 925925926000) {i : Nat} (hi : i < p.txs.length) (e : Ev) (hk : e.kd = 2 ∨ e.kd = 3) : Calls Tryd.prog 33 #[ptr (b i), evV e] w (SubQ w B P k ((touchD (nt p.txs i) e).map (p.upd i))) := by
  have hbb : ∀ x ∈ (b i :: (V i).ownBlock.toList), B ≤ x := fun x hx => by
    simp only [List.mem_cons, Option.mem_toList] at hx
    rcases hx with rfl | hx
    · exact h.bB i hi
    · exact (own_block (h.ac i hi) x hx).1
  by_cases hs : (nt p.txs i).sg = 1 ∧ 0 ≤ e.cl ∧ e.cl < 1024
  · rcases hk with hk | hk
    · refine (touch_read h hB hkb hi e hk hs).mono ?_
      rintro x w' ⟨rfl, ⟨v', hp⟩, hk2⟩
      refine ⟨true, rfl, ?_, hk2.below hB hbb⟩
      unfold SubR touchD
      rw [if_pos hs, if_neg (by rw [hk]; decide), show decide (e.kd = 3) = false by rw [hk]; decide]
      exact ⟨rfl, b, _, vt, vp, hp⟩
    · refine (touch_write h hB hkb hi e hk hs).mono ?_
      rintro x w' ⟨rfl, ⟨v', hp⟩, hk2⟩
      refine ⟨true, rfl, ?_, hk2.below hB hbb⟩
      unfold SubR touchD
      rw [if_pos hs, if_pos hk, show decide (e.kd = 3) = true by rw [hk]; decide]
      exact ⟨rfl, b, _, vt, vp, hp⟩
  · refine (touch_no h hi e hs).mono ?_
    rintro x w' ⟨rfl, hk2⟩
    exact ⟨false, rfl, by unfold SubR touchD; rw [if_neg hs]; rfl, hk2.below hB (fun x hx => by simp at hx; subst hx; exact h.bB i hi)⟩
theorem sub_publish {w : World} {B P k : Nat} {p : Pa} {b : Nat → Nat} {V : Nat → Value} {vt vp : Value} (h : PAt w B P k p b V vt vp) (hB : B ≤ w.heap.size) (hkb : k ≤ 925925926000) {i : Nat} (hi : i < p.txs.length) (e : Ev) : Calls Tryd.prog 34 #[ptr P, ptr (b i), evV e] w (SubQ w B P k (publishD p i e)) := by
  by_cases hs : (nt p.txs i).sg = 1 ∧ e.sp = (p.pub.length : Int) + 1
  · refine (publish_yes h hB hkb hi e hs).mono ?_
    rintro x w' ⟨rfl, ⟨v', hp⟩, hb⟩
    exact ⟨true, rfl, by unfold SubR publishD; rw [if_pos hs]; exact ⟨rfl, b, V, vt, v', hp⟩, hb⟩
  · refine (publish_no h hkb hi e hs).mono ?_
    rintro x w' ⟨rfl, hk⟩
    exact ⟨false, rfl, by unfold SubR publishD; rw [if_neg hs], hk.below hB (fun x hx => by simp at hx)⟩
theorem sub_finish {w : World} {B P k : Nat} {p : Pa} {b : Nat → Nat} {V : Nat → Value} {vt vp : Value} (h : PAt w B P k p b V vt vp) (hB : B ≤ w.heap.size) (hkb : k ≤ 925925926000) {i : Nat} (hi : i < p.txs.length) (e : Ev) : Calls Tryd.prog 35 #[ptr P, ptr (b i), evV e] w (SubQ w B P k (finishD p i e)) := by
  by_cases hs : (nt p.txs i).sg = 2 ∧ e.sp = (nt p.txs i).st ∧ e.sp = p.co + 1
  · refine (finish_yes h hkb hi e hs).mono ?_
    rintro x w' ⟨rfl, hp, hk⟩
    exact ⟨true, rfl, by unfold SubR finishD; rw [if_pos hs]; exact ⟨rfl, b, V, vt, vp, hp⟩, hk.below hB (fun x hx => by simp at hx; rcases hx with rfl | rfl; exact h.pB; exact h.bB i hi)⟩
  · refine (finish_no h hkb hi e hs).mono ?_
    rintro x w' ⟨rfl, hk⟩
    exact ⟨false, rfl, by unfold SubR finishD; rw [if_neg hs], hk.below hB (fun x hx => by simp at hx)⟩
theorem SubQ.mono {w wx : World} {B P k : Nat} {o : Option Pa} {x : Ending} {w' : World} (h : SubQ wx B P k o x w') (hb : Below B w wx) : SubQ w B P k o x w' := by
  obtain ⟨y, h1, h2, h3⟩ := h
  exact ⟨y, h1, h2, hb.trans h3⟩
theorem take_late {w : World} {B P k : Nat} {p : Pa} {b : Nat → Nat} {V : Nat → Value} {vt vp : Value} (h : PAt w B P k p b V vt vp) (hB : B ≤ w.heap.size) (e : Ev) (hs : e.at_ < p.at_) : Calls Tryd.prog 22 #[ptr P, evV e] w (SubQ w B P k (takeD p e)) := by
  have hlP := heap_lt h.pa
  have hp0 : w.cell? ⟨P, 0, none⟩ = some (.int .i64 p.at_) := by rw [cell_at h.pa]; simp
  have hd : decide (e.at_ < p.at_) = true := by simpa using hs
  have ht : takeD p e = none := by unfold takeD; rw [if_pos hs]
  rw [ht]
  unfold SubQ
  clear h ht hs
  generalize p.at_ = q at *
  have hs0 : (evA e)[0]? = some (.int .i64 e.at_) := rfl
  have hs1 : (evA e)[1]? = some (.int .i64 e.th) := rfl
  have hs2 : (evA e)[2]? = some (.int .i64 e.tx) := rfl
  have hs3 : (evA e)[3]? = some (.int .i64 e.kd) := rfl
  have HI : Hid ((Tryd.prog.info? 39).map (·.size) = some (evA e).size) := ev_info e
  unfold evV ptr
  generalize evA e = cs at *
  generalize e.at_ = a at *
  generalize e.th = th at *
  generalize e.tx = tx at *
  generalize e.kd = kd at *
  go_enter Tryd.func22, Tryd.ntmps22
  go_wp2
  go_quiet (fail)
  go_wp2
  go_ret
  exact ⟨false, rfl, rfl, (((Keep.refl [] w).alloc _).drewN _).below hB (fun x hx => by simp at hx)⟩
theorem PAt.moment {w : World} {B P k : Nat} {p : Pa} {b : Nat → Nat} {V : Nat → Value} {vt vp : Value} (h : PAt w B P k p b V vt vp) (hB : B ≤ w.heap.size) (o : Obj) (n : Nat) (a : Int) : PAt (((w.alloc o).drewN n).setCell ⟨P, 0, none⟩ (.int .i64 a)) B P k { p with at_ := a } b V vt vp ∧ Below B w (((w.alloc o).drewN n).setCell ⟨P, 0, none⟩ (.int .i64 a)) ∧ (((w.alloc o).drewN n).setCell ⟨P, 0, none⟩ (.int .i64 a)).heap[w.heap.size]? = some o := by
  have k0 : Keep [] w ((w.alloc o).drewN n) := ((Keep.refl [] w).alloc _).drewN _
  have h0 := h.keep k0 (fun x hx => by simp at hx)
  have k1 : Keep [P] ((w.alloc o).drewN n) (((w.alloc o).drewN n).setCell ⟨P, 0, none⟩ (.int .i64 a)) := (Keep.refl _ _).setCell _ _ (Or.inl (by simp))
  refine ⟨h0.own (a := a) (c := p.co) (by have := h.bd; omega) (by rw [heap_set h0.pa]; simp) k1, (k0.below hB (fun x hx => by simp at hx)).trans (k1.below (Nat.le_trans hB k0.size) (fun x hx => by simp at hx; subst hx; exact h.pB)), ?_⟩
  rw [heap_set_other _ _ (by have := heap_lt h.pa; omega)]
  exact heap_alloc_new w o
theorem take_open {w : World} {B P k : Nat} {p : Pa} {b : Nat → Nat} {V : Nat → Value} {vt vp : Value} (h : PAt w B P k p b V vt vp) (hB : B ≤ w.heap.size) (hkb : k ≤ 925925926000) (e : Ev) (hs : ¬ e.at_ < p.at_) (hk : e.kd = 7) : Calls Tryd.prog 22 #[ptr P, evV e] w (SubQ w B P k (takeD p e)) := by
  have hlP := heap_lt h.pa
  have hp0 : w.cell? ⟨P, 0, none⟩ = some (.int .i64 p.at_) := by rw [cell_at h.pa]; simp
  have hpf := frozen_at h.pa 0
  have hd : decide (e.at_ < p.at_) = false := by simpa using hs
  have ht : takeD p e = openD { p with at_ := e.at_ } e := by unfold takeD; rw [if_neg hs, if_pos hk]
  rw [ht]
  have HM : Hid (∀ o n, ∃ w2, (((w.alloc o).drewN n).setCell ⟨P, 0, none⟩ (.int .i64 e.at_)) = w2 ∧ PAt w2 B P k { p with at_ := e.at_ } b V vt vp ∧ Below B w w2 ∧ w2.heap[w.heap.size]? = some o) := fun o n => by
    obtain ⟨h1, h2, h3⟩ := h.moment hB o n e.at_
    exact ⟨_, rfl, h1, h2, h3⟩
  have HC : Hid (∀ wx, PAt wx B P k { p with at_ := e.at_ } b V vt vp → B ≤ wx.heap.size → Calls Tryd.prog 31 #[ptr P, evV e] wx (SubQ wx B P k (openD { p with at_ := e.at_ } e))) := fun wx hp hb => sub_open hp hb hkb e
  clear h ht hs hkb
  generalize openD { p with at_ := e.at_ } e = oo at *
  generalize { p with at_ := e.at_ : Pa } = pq at *
  generalize p.at_ = q at *
  have hs0 : (evA e)[0]? = some (.int .i64 e.at_) := rfl
  have hs1 : (evA e)[1]? = some (.int .i64 e.th) := rfl
  have hs2 : (evA e)[2]? = some (.int .i64 e.tx) := rfl
  have hs3 : (evA e)[3]? = some (.int .i64 e.kd) := rfl
  have HI : Hid ((Tryd.prog.info? 39).map (·.size) = some (evA e).size) := ev_info e
  unfold evV ptr SubQ at *
  generalize evA e = cs at *
  generalize e.at_ = a at *
  generalize e.th = th at *
  generalize e.tx = tx at *
  generalize e.kd = kd at *
  subst hk
  go_enter Tryd.func22, Tryd.ntmps22
  go_wp2
  go_quiet (fail)
  go_upto_if 20 with fail
  obtain ⟨w2, hW, hpat, hbel, hE⟩ := HM.out (.cells cs 39) nq
  rw [hW]
  have HPT : Hid (PAt w2 B P k pq b V vt vp) := hpat
  have HBL : Hid (Below B w w2) := hbel
  have he1 : w2.cell? ⟨w.heap.size, 1, none⟩ = some (.int .i64 th) := by rw [cell_at hE]; exact hs1
  have he2 : w2.cell? ⟨w.heap.size, 2, none⟩ = some (.int .i64 tx) := by rw [cell_at hE]; exact hs2
  have he3 : w2.cell? ⟨w.heap.size, 3, none⟩ = some (.int .i64 7) := by rw [cell_at hE]; exact hs3
  have hlE : w.heap.size < w2.heap.size := heap_lt hE
  have HEV : Hid (w2.heap[w.heap.size]? = some (.cells cs 39 (0, 0))) := hE
  clear hW hpat hbel hE HM hlP hp0 hpf
  go_wp2_with (first | (refine wpList_load_row (by rfl) _ _ (by rfl) w.heap.size (by rfl) 39 cs (0, 0) _ HEV.out Tryd.underlying39 (by rfl) HI.out ?_) | fail)
  refine (HC.out _ HPT.out (Nat.le_trans hB HBL.out.size)).mono ?_
  rintro x w3 ⟨y, rfl, h1, h2⟩
  go_wp2_with fail
  go_ret
  exact ⟨y, rfl, h1, HBL.out.trans h2⟩
theorem take_else {w : World} {B P k : Nat} {p : Pa} {b : Nat → Nat} {V : Nat → Value} {vt vp : Value} (h : PAt w B P k p b V vt vp) (hB : B ≤ w.heap.size) (e : Ev) (hs : ¬ e.at_ < p.at_) (hk : e.kd ≠ 7) (hx : e.tx < 0 ∨ (p.txs.length : Int) ≤ e.tx) : Calls Tryd.prog 22 #[ptr P, evV e] w (SubQ w B P k (takeD p e)) := by
  have hlP := heap_lt h.pa
  have hp0 : w.cell? ⟨P, 0, none⟩ = some (.int .i64 p.at_) := by rw [cell_at h.pa]; simp
  have hp1 : w.cell? ⟨P, 1, none⟩ = some vt := by rw [cell_at h.pa]; simp
  have hpf := frozen_at h.pa 0
  have hd : decide (e.at_ < p.at_) = false := by simpa using hs
  have hd7 : (e.kd == 7) = false := by simpa using hk
  have ht : takeD p e = none := by unfold takeD; rw [if_neg hs, if_neg hk, if_pos hx]
  rw [ht]
  have HW : Hid (∀ o n n2, Below B w ((((w.alloc o).drewN n).setCell ⟨P, 0, none⟩ (.int .i64 e.at_)).drewN n2)) := fun o n n2 => by
    obtain ⟨h1, h2, _⟩ := h.moment hB o n e.at_
    exact h2.trans ((below_drawn (Below.refl _ _) n2).mono (Nat.le_trans hB h2.size))
  obtain ⟨sa, cap, rfl⟩ := own_slice h.ts
  clear h ht hs
  generalize p.at_ = q at *
  generalize p.txs.length = m at *
  have hs0 : (evA e)[0]? = some (.int .i64 e.at_) := rfl
  have hs1 : (evA e)[1]? = some (.int .i64 e.th) := rfl
  have hs2 : (evA e)[2]? = some (.int .i64 e.tx) := rfl
  have hs3 : (evA e)[3]? = some (.int .i64 e.kd) := rfl
  have HI : Hid ((Tryd.prog.info? 39).map (·.size) = some (evA e).size) := ev_info e
  unfold evV ptr SubQ at *
  generalize evA e = cs at *
  generalize e.at_ = a at *
  generalize e.th = th at *
  generalize e.tx = tx at *
  generalize e.kd = kd at *
  have hx2 : decide (tx < 0) = true ∨ (decide (tx < 0) = false ∧ decide ((m : Int) ≤ tx) = true) := by
    by_cases h0 : tx < 0
    · exact Or.inl (by simpa using h0)
    · exact Or.inr ⟨by simpa using h0, by simpa using hx.resolve_left h0⟩
  clear hx hk
  rcases hx2 with hx | ⟨hx, hx'⟩
  all_goals
    go_enter Tryd.func22, Tryd.ntmps22
    go_wp2
    go_quiet (fail)
    go_wp2
    go_quiet (fail)
    go_wp2
    go_ret
    exact ⟨false, rfl, rfl, HW.out _ _ _⟩
/-- What the walk of an event of a transaction that is there needs. -/
structure TKin (w2 : World) (E P g X : Nat) (m cap i : Nat) (xth a th kd co : Int) (cl vl sr sn sp er : Int) (ow : Bool) (sg : Nat → Int) (vp : Value) : Prop where
  p1 : w2.cell? ⟨P, 1, none⟩ = some (.slice (some ⟨g, 0, none⟩) m cap)
  gi : w2.cell? ⟨g, i, none⟩ = some (.pointer (some ⟨X, 0, none⟩))
  x0 : w2.cell? ⟨X, 0, none⟩ = some (.int .i64 xth)
theorem own_at {w : World} {B n i : Nat} {v : Value} {b : Nat → Nat} (h : w.ownsRow B 55 1 v n (ptrs b n)) (hi : i < n) : ∃ g cap, v = .slice (some ⟨g, 0, none⟩) n cap ∧ n ≤ cap ∧ w.cell? ⟨g, i, none⟩ = some (ptr (b i)) := by
  rcases h.2 with ⟨_, h0⟩ | ⟨g, cap, cur, rfl, _, hg, hc, _⟩
  · omega
  · exact ⟨g, cap, rfl, hc, own_cells h i _ (ptrs_get b hi)⟩
set_option maxRecDepth 100000 in
set_option maxHeartbeats 1600000 in
theorem take_kind {w : World} {B P k : Nat} {p : Pa} {b : Nat → Nat} {V : Nat → Value} {vt vp : Value} (h : PAt w B P k p b V vt vp) (hB : B ≤ w.heap.size) (hkb : k ≤ 925925926000) (e : Ev) (hs : ¬ e.at_ < p.at_) (hk : e.kd ≠ 7) (hx : ¬ (e.tx < 0 ∨ (p.txs.length : Int) ≤ e.tx)) : Calls Tryd.prog 22 #[ptr P, evV e] w (SubQ w B P k (takeD p e)) := by
  have hlP := heap_lt h.pa
  have hp0 : w.cell? ⟨P, 0, none⟩ = some (.int .i64 p.at_) := by rw [cell_at h.pa]; simp
  have hpf := frozen_at h.pa 0
  have hd : decide (e.at_ < p.at_) = false := by simpa using hs
  have hd7 : (e.kd == 7) = false := by simpa using hk
  have ht : takeD p e = if e.th ≠ (nt p.txs e.tx.toNat).th then none else kindD { p with at_ := e.at_ } e.tx.toNat e := by unfold takeD; rw [if_neg hs, if_neg hk, if_neg hx]
  rw [ht]
  obtain ⟨i, hi⟩ : ∃ i : Nat, e.tx = (i : Int) := ⟨e.tx.toNat, by omega⟩
  have hil : i < p.txs.length := by omega
  rw [hi, Int.toNat_natCast]
  obtain ⟨g, cap, hvt, hcap, hgi⟩ := own_at h.ts hil
  have hX := h.tx i hil
  have HM : Hid (∀ o n, ∃ w2, (((w.alloc o).drewN n).setCell ⟨P, 0, none⟩ (.int .i64 e.at_)) = w2 ∧ PAt w2 B P k { p with at_ := e.at_ } b V vt vp ∧ Below B w w2 ∧ w2.heap[w.heap.size]? = some o) := fun o n => by
    obtain ⟨h1, h2, h3⟩ := h.moment hB o n e.at_
    exact ⟨_, rfl, h1, h2, h3⟩
  have HG : Hid (∀ w2, PAt w2 B P k { p with at_ := e.at_ } b V vt vp → w2.cell? ⟨P, 1, none⟩ = some (.slice (some ⟨g, 0, none⟩) p.txs.length cap) ∧ w2.cell? ⟨g, i, none⟩ = some (.pointer (some ⟨b i, 0, none⟩)) ∧ w2.cell? ⟨b i, 0, none⟩ = some (.int .i64 (nt p.txs i).th)) := fun w2 h2 => by
    refine ⟨by rw [cell_at h2.pa, ← hvt]; simp, ?_, by rw [cell_at (h2.tx i hil)]; simp [txC]⟩
    obtain ⟨g', cap', e1, _, e3⟩ := own_at h2.ts hil
    rw [hvt] at e1
    simp at e1
    rw [e1.1]
    exact e3
  have HC1 : Hid (∀ wx, PAt wx B P k { p with at_ := e.at_ } b V vt vp → B ≤ wx.heap.size → Calls Tryd.prog 32 #[ptr (b i), evV e] wx (SubQ wx B P k ((beginD (nt p.txs i) e).map ({ p with at_ := e.at_ : Pa }.upd i)))) := fun wx hp hb => sub_begin hp hb hil e
  have HC2 : Hid (∀ wx, PAt wx B P k { p with at_ := e.at_ } b V vt vp → B ≤ wx.heap.size → (e.kd = 2 ∨ e.kd = 3) → Calls Tryd.prog 33 #[ptr (b i), evV e] wx (SubQ wx B P k ((touchD (nt p.txs i) e).map ({ p with at_ := e.at_ : Pa }.upd i)))) := fun wx hp hb hk => sub_touch hp hb hkb hil e hk
  have HC4 : Hid (∀ wx, PAt wx B P k { p with at_ := e.at_ } b V vt vp → B ≤ wx.heap.size → Calls Tryd.prog 34 #[ptr P, ptr (b i), evV e] wx (SubQ wx B P k (publishD { p with at_ := e.at_ } i e))) := fun wx hp hb => sub_publish hp hb hkb hil e
  have HC5 : Hid (∀ wx, PAt wx B P k { p with at_ := e.at_ } b V vt vp → B ≤ wx.heap.size → Calls Tryd.prog 35 #[ptr P, ptr (b i), evV e] wx (SubQ wx B P k (finishD { p with at_ := e.at_ } i e))) := fun wx hp hb => sub_finish hp hb hkb hil e
  have HC6 : Hid (∀ wx, PAt wx B P k { p with at_ := e.at_ } b V vt vp → B ≤ wx.heap.size → Calls Tryd.prog 36 #[ptr (b i), evV e] wx (SubQ wx B P k ((endD (nt p.txs i) e).map ({ p with at_ := e.at_ : Pa }.upd i)))) := fun wx hp hb => sub_end hp hb hil e
  have hi0 : decide ((i : Int) < 0) = false := by simp
  have hi1 : decide ((p.txs.length : Int) ≤ (i : Int)) = false := by simp; omega
  have HK : Hid (kindD { p with at_ := e.at_ } i e = if e.kd = 1 then (beginD (nt p.txs i) e).map ({ p with at_ := e.at_ : Pa }.upd i) else if e.kd = 2 ∨ e.kd = 3 then (touchD (nt p.txs i) e).map ({ p with at_ := e.at_ : Pa }.upd i) else if e.kd = 4 then publishD { p with at_ := e.at_ } i e else if e.kd = 5 then finishD { p with at_ := e.at_ } i e else if e.kd = 6 then (endD (nt p.txs i) e).map ({ p with at_ := e.at_ : Pa }.upd i) else none) := rfl
  have hig : (i : Int) < (p.txs.length : Int) := by omega
  generalize kindD { p with at_ := e.at_ } i e = kq at *
  generalize (beginD (nt p.txs i) e).map ({ p with at_ := e.at_ : Pa }.upd i) = o1 at *
  generalize (touchD (nt p.txs i) e).map ({ p with at_ := e.at_ : Pa }.upd i) = o2 at *
  generalize publishD { p with at_ := e.at_ } i e = o4 at *
  generalize finishD { p with at_ := e.at_ } i e = o5 at *
  generalize (endD (nt p.txs i) e).map ({ p with at_ := e.at_ : Pa }.upd i) = o6 at *
  have HPA : Hid (∀ wx, PAt wx B P k { p with at_ := e.at_ } b V vt vp → ∀ n, PAt (wx.drewN n) B P k { p with at_ := e.at_ } b V vt vp) := fun wx hp n => hp.drewN n
  clear h ht hs hX hgi hil hx hk hkb hcap
  generalize { p with at_ := e.at_ : Pa } = pq at *
  generalize (nt p.txs i).th = xth at *
  generalize p.at_ = q at *
  generalize p.txs.length = m at *
  generalize hXX : b i = X at *
  have hs0 : (evA e)[0]? = some (.int .i64 e.at_) := rfl
  have hs1 : (evA e)[1]? = some (.int .i64 e.th) := rfl
  have hs2 : (evA e)[2]? = some (.int .i64 e.tx) := rfl
  have hs3 : (evA e)[3]? = some (.int .i64 e.kd) := rfl
  have HI : Hid ((Tryd.prog.info? 39).map (·.size) = some (evA e).size) := ev_info e
  unfold evV ptr SubQ at *
  generalize evA e = cs at *
  generalize e.at_ = a at *
  generalize e.th = th at *
  generalize e.tx = tx at *
  generalize e.kd = kd at *
  subst hi
  by_cases hth : th = xth
  · have hdth : (th != xth) = false := by simpa using hth
    rw [if_neg (fun hh => hh hth)]
    clear hth
    go_enter Tryd.func22, Tryd.ntmps22
    go_wp2
    go_quiet (fail)
    go_wp2
    obtain ⟨w2, hW, hpat, hbel, hE⟩ := HM.out (.cells cs 39) nq
    rw [hW]
    obtain ⟨hq1, hq2, hq3⟩ := HG.out w2 hpat
    have he1 : w2.cell? ⟨w.heap.size, 1, none⟩ = some (.int .i64 th) := by rw [cell_at hE]; exact hs1
    have he2 : w2.cell? ⟨w.heap.size, 2, none⟩ = some (.int .i64 (i : Int)) := by rw [cell_at hE]; exact hs2
    have he3 : w2.cell? ⟨w.heap.size, 3, none⟩ = some (.int .i64 kd) := by rw [cell_at hE]; exact hs3
    have HEV : Hid (w2.heap[w.heap.size]? = some (.cells cs 39)) := hE
    have HBL : Hid (Below B w w2) := hbel
    have HPT : Hid (PAt w2 B P k pq b V vt vp) := hpat
    have hlE : w.heap.size < w2.heap.size := heap_lt hE
    clear hW hE hpat hbel HM HG
    go_quiet (fail)
    go_wp2
    go_quiet (fail)
    go_wp2
    go_quiet (fail)
    have HB2 : Hid (B ≤ w2.heap.size) := Nat.le_trans hB HBL.out.size
    by_cases k1 : kd = 1
    · subst k1
      have HK7 : Hid (kq = _) := HK.out.trans (by rw [if_pos rfl])
      clear HK HC2 HC4 HC5 HC6
      go_wp2_with (first | (refine wpList_load_row (by rfl) _ _ (by rfl) w.heap.size (by rfl) 39 cs (0, 0) _ HEV.out Tryd.underlying39 (by rfl) HI.out ?_) | fail)
      refine (HC1.out _ (HPT.out.drewN _) HB2.out).mono ?_
      rintro x w3 ⟨y, rfl, h1, h2⟩
      go_wp2_with fail
      go_ret
      exact ⟨y, rfl, by rw [HK7.out]; exact h1, HBL.out.trans ((below_drawn (Below.refl _ _) _).mono HB2.out |>.trans h2)⟩
    by_cases k2 : kd = 2
    · subst k2
      have HK7 : Hid (kq = _) := HK.out.trans (by rw [if_neg (by decide), if_pos (by decide : (2 : Int) = 2 ∨ (2 : Int) = 3)])
      clear HK HC1 HC4 HC5 HC6
      go_wp2_with (first | (refine wpList_load_row (by rfl) _ _ (by rfl) w.heap.size (by rfl) 39 cs (0, 0) _ HEV.out Tryd.underlying39 (by rfl) HI.out ?_) | fail)
      refine (HC2.out _ (HPT.out.drewN _) HB2.out (by simp)).mono ?_
      rintro x w3 ⟨y, rfl, h1, h2⟩
      go_wp2_with fail
      go_ret
      exact ⟨y, rfl, by rw [HK7.out]; exact h1, HBL.out.trans ((below_drawn (Below.refl _ _) _).mono HB2.out |>.trans h2)⟩
    by_cases k3 : kd = 3
    · subst k3
      have HK7 : Hid (kq = _) := HK.out.trans (by rw [if_neg (by decide), if_pos (by decide : (3 : Int) = 2 ∨ (3 : Int) = 3)])
      clear HK HC1 HC4 HC5 HC6
      go_wp2_with (first | (refine wpList_load_row (by rfl) _ _ (by rfl) w.heap.size (by rfl) 39 cs (0, 0) _ HEV.out Tryd.underlying39 (by rfl) HI.out ?_) | fail)
      refine (HC2.out _ (HPT.out.drewN _) HB2.out (by simp)).mono ?_
      rintro x w3 ⟨y, rfl, h1, h2⟩
      go_wp2_with fail
      go_ret
      exact ⟨y, rfl, by rw [HK7.out]; exact h1, HBL.out.trans ((below_drawn (Below.refl _ _) _).mono HB2.out |>.trans h2)⟩
    by_cases k4 : kd = 4
    · subst k4
      have HK7 : Hid (kq = _) := HK.out.trans (by rw [if_neg (by decide), if_neg (by decide), if_pos rfl])
      clear HK HC1 HC2 HC5 HC6
      go_wp2_with (first | (refine wpList_load_row (by rfl) _ _ (by rfl) w.heap.size (by rfl) 39 cs (0, 0) _ HEV.out Tryd.underlying39 (by rfl) HI.out ?_) | fail)
      refine (HC4.out _ (HPT.out.drewN _) HB2.out).mono ?_
      rintro x w3 ⟨y, rfl, h1, h2⟩
      go_wp2_with fail
      go_ret
      exact ⟨y, rfl, by rw [HK7.out]; exact h1, HBL.out.trans ((below_drawn (Below.refl _ _) _).mono HB2.out |>.trans h2)⟩
    by_cases k5 : kd = 5
    · subst k5
      have HK7 : Hid (kq = _) := HK.out.trans (by rw [if_neg (by decide), if_neg (by decide), if_neg (by decide), if_pos rfl])
      clear HK HC1 HC2 HC4 HC6
      go_wp2_with (first | (refine wpList_load_row (by rfl) _ _ (by rfl) w.heap.size (by rfl) 39 cs (0, 0) _ HEV.out Tryd.underlying39 (by rfl) HI.out ?_) | fail)
      refine (HC5.out _ (HPT.out.drewN _) HB2.out).mono ?_
      rintro x w3 ⟨y, rfl, h1, h2⟩
      go_wp2_with fail
      go_ret
      exact ⟨y, rfl, by rw [HK7.out]; exact h1, HBL.out.trans ((below_drawn (Below.refl _ _) _).mono HB2.out |>.trans h2)⟩
    by_cases k6 : kd = 6
    · subst k6
      have HK7 : Hid (kq = _) := HK.out.trans (by rw [if_neg (by decide), if_neg (by decide), if_neg (by decide), if_neg (by decide), if_pos rfl])
      clear HK HC1 HC2 HC4 HC5
      go_wp2_with (first | (refine wpList_load_row (by rfl) _ _ (by rfl) w.heap.size (by rfl) 39 cs (0, 0) _ HEV.out Tryd.underlying39 (by rfl) HI.out ?_) | fail)
      refine (HC6.out _ (HPT.out.drewN _) HB2.out).mono ?_
      rintro x w3 ⟨y, rfl, h1, h2⟩
      go_wp2_with fail
      go_ret
      exact ⟨y, rfl, by rw [HK7.out]; exact h1, HBL.out.trans ((below_drawn (Below.refl _ _) _).mono HB2.out |>.trans h2)⟩
    have d1 : (kd == 1) = false := by simpa using k1
    have d2 : (kd == 2) = false := by simpa using k2
    have d3 : (kd == 3) = false := by simpa using k3
    have d4 : (kd == 4) = false := by simpa using k4
    have d5 : (kd == 5) = false := by simpa using k5
    have d6 : (kd == 6) = false := by simpa using k6
    have HK7 : Hid (kq = none) := by rw [Hid, HK.out, if_neg k1, if_neg (by omega), if_neg k4, if_neg k5, if_neg k6]
    clear HK HC1 HC2 HC4 HC5 HC6 k1 k2 k3 k4 k5 k6
    go_wp2_with fail
    go_ret
    exact ⟨false, rfl, by rw [HK7.out]; rfl, HBL.out.trans ((below_drawn (Below.refl _ _) _).mono HB2.out)⟩
  · have hdth : (th != xth) = true := by simpa using hth
    rw [if_pos hth]
    clear hth HC1 HC2 HC4 HC5 HC6 HK
    go_enter Tryd.func22, Tryd.ntmps22
    go_wp2
    go_quiet (fail)
    go_wp2
    obtain ⟨w2, hW, hpat, hbel, hE⟩ := HM.out (.cells cs 39) nq
    rw [hW]
    obtain ⟨hq1, hq2, hq3⟩ := HG.out w2 hpat
    have he1 : w2.cell? ⟨w.heap.size, 1, none⟩ = some (.int .i64 th) := by rw [cell_at hE]; exact hs1
    have he2 : w2.cell? ⟨w.heap.size, 2, none⟩ = some (.int .i64 (i : Int)) := by rw [cell_at hE]; exact hs2
    have he3 : w2.cell? ⟨w.heap.size, 3, none⟩ = some (.int .i64 kd) := by rw [cell_at hE]; exact hs3
    have HEV : Hid (w2.heap[w.heap.size]? = some (.cells cs 39)) := hE
    have HBL : Hid (Below B w w2) := hbel
    have HPT : Hid (PAt w2 B P k pq b V vt vp) := hpat
    have hlE : w.heap.size < w2.heap.size := heap_lt hE
    clear hW hE hpat hbel HM HG
    go_quiet (fail)
    go_wp2
    go_quiet (fail)
    go_wp2
    go_quiet (fail)
    go_wp2
    go_ret
    exact ⟨false, rfl, rfl, HBL.out.trans ((below_drawn (below_drawn (below_drawn (Below.refl _ _) _) _) _).mono (Nat.le_trans hB HBL.out.size))⟩
end Go.Proofs.YtadollckekddgaaDoor.Hi
