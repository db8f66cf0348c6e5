/- An entry is published; a transaction is opened. -/
import Derived.Test.YtadollckekddgaaDoorHiE
import Derived.BigRegion
import Derived.Deep.CutBlock
import Derived.Deep.DeepCutAuto
namespace Go.Proofs.YtadollckekddgaaDoor.Hi
open Go.ChangeShapes Go.WideShapes Go.ChangeAt Go.RowKit
set_option linter.unusedVariables false

theorem wrap_id (x : Int) (h0 : 0 ≤ x) (h1 : x ≤ 10000000000000) : wrap64 x = x := by
  unfold wrap64
  omega
theorem bd_pub {w : World} {B P k : Nat} {p : Pa} {b : Nat → Nat} {V : Nat → Value} {vt vp : Value} (h : PAt w B P k p b V vt vp) (hkb : k ≤ 925925926000) : p.pub.length ≤ 925925926000 := Nat.le_trans h.bd.2.1 hkb
theorem bd_txs {w : World} {B P k : Nat} {p : Pa} {b : Nat → Nat} {V : Nat → Value} {vt vp : Value} (h : PAt w B P k p b V vt vp) (hkb : k ≤ 925925926000) : p.txs.length ≤ 925925926000 := Nat.le_trans h.bd.1 hkb
theorem wrap_pub (n : Nat) (h : n ≤ 925925926000) : wrap64 ((n : Int) + 1) = (n : Int) + 1 := wrap_id _ (by omega) (by omega)
theorem wrap_sub (n : Nat) (z : Int) (h : n ≤ 925925926000) (hz : z = (n : Int) + 1) : wrap64 (z - 1) = z - 1 := wrap_id _ (by omega) (by omega)
theorem info_ptx : (Tryd.prog.info? 55).map (fun i => (i.zero, i.size, i.bytes)) = some (some (.pointer none), 1, 8) := by kernel_rfl
theorem publish_no {w : World} {B P k : Nat} {p : Pa} {b : Nat → Nat} {V : Nat → Value} {vt vp : Value} (h : PAt w B P k p b V vt vp) (hkb : k ≤ 925925926000) {i : Nat} (hi : i < p.txs.length) (e : Ev) (hs : ¬ ((nt p.txs i).sg = 1 ∧ e.sp = (p.pub.length : Int) + 1)) :
    Calls Tryd.prog 34 #[ptr P, ptr (b i), evV e] w fun x w' => x = .returned (.bool false) ∧ Keep [] w w' := by
  have hx := h.tx i hi
  have hlt := heap_lt hx
  have hlP := heap_lt h.pa
  have hc6 : w.cell? ⟨b i, 6, none⟩ = some (.int .i64 (nt p.txs i).sg) := by rw [cell_at hx]; simp [txC]
  have hp2 : w.cell? ⟨P, 2, none⟩ = some vp := by rw [cell_at h.pa]; simp
  obtain ⟨sa, cap, rfl⟩ := own_slice h.ps
  have hw : wrap64 ((p.pub.length : Int) + 1) = (p.pub.length : Int) + 1 := wrap_pub _ (bd_pub h hkb)
  clear h hi hx hkb
  generalize (nt p.txs i).sg = z at *
  generalize hcc : (p.pub.length : Int) + 1 = c1 at *
  generalize p.pub.length = c at *
  generalize b i = X at *
  obtain ⟨a, th, tx, kd, cl, vl, ow, sr, sn, sp, sg, er⟩ := e
  unfold evV evA ptr
  dsimp only at *
  by_cases h1 : z = 1
  · subst h1
    have hd3 : (sp != c1) = true := by simpa using fun h3 => hs ⟨rfl, h3⟩
    have HH : Hid ((c : Int) + 1 = c1) := hcc
    have hw' : wrap64 ((c : Int) + 1) = c1 := by rw [HH.out]; exact hw
    clear hs hcc hw
    go_enter Tryd.func34, Tryd.ntmps34
    go_wp2
    go_quiet (fail)
    go_wp2
    go_ret
    exact ⟨rfl, ((Keep.refl [] w).alloc _).drewN _⟩
  · have hd : (z != 1) = true := by simpa using h1
    clear hs hw hcc
    go_enter Tryd.func34, Tryd.ntmps34
    go_wp2
    go_quiet (fail)
    go_wp2
    go_ret
    exact ⟨rfl, ((Keep.refl [] w).alloc _).drewN _⟩
theorem open_no {w : World} {B P k : Nat} {p : Pa} {b : Nat → Nat} {V : Nat → Value} {vt vp : Value} (h : PAt w B P k p b V vt vp) (e : Ev) (hs : e.tx ≠ (p.txs.length : Int)) :
    Calls Tryd.prog 31 #[ptr P, evV e] w fun x w' => x = .returned (.bool false) ∧ Keep [] w w' := by
  have hlP := heap_lt h.pa
  have hp1 : w.cell? ⟨P, 1, none⟩ = some vt := by rw [cell_at h.pa]; simp
  obtain ⟨sa, cap, rfl⟩ := own_slice h.ts
  clear h
  generalize p.txs.length = c at *
  obtain ⟨a, th, tx, kd, cl, vl, ow, sr, sn, sp, sg, er⟩ := e
  unfold evV evA ptr
  dsimp only at *
  have hd3 : (tx != (c : Int)) = true := by simpa using hs
  clear hs
  go_enter Tryd.func31, Tryd.ntmps31
  go_wp2
  go_quiet (fail)
  go_wp2
  go_ret
  exact ⟨rfl, ((Keep.refl [] w).alloc _).drewN _⟩
/-- A row of pointers behind an append. -/
theorem row_end {w4 w5 w1 : World} {B P j n gg cap' : Nat} {cs : Array Value} {v : Value} {xs ys : List Value} (hP : w4.heap[P]? = some (.cells cs 54 (0, 0))) (hown : w4.ownsRow B 55 1 v n xs)
    (hk5 : Keep [] w4 w5) (hown1 : w1.ownsRow B 55 1 (.slice (some ⟨gg, 0, none⟩) (n + 1) cap') (n + 1) (xs ++ ys)) (hgrow : w5.grownBy w1 v.ownBlock) (hat : v.ownBlock = some gg ∨ w4.heap.size ≤ gg) :
    (w1.setCell ⟨P, j, none⟩ (.slice (some ⟨gg, 0, none⟩) (n + 1) cap')).heap[P]? = some (.cells (cs.setIfInBounds j (.slice (some ⟨gg, 0, none⟩) (n + 1) cap')) 54 (0, 0)) ∧ Keep (P :: v.ownBlock.toList) w4 (w1.setCell ⟨P, j, none⟩ (.slice (some ⟨gg, 0, none⟩) (n + 1) cap')) ∧
      (w1.setCell ⟨P, j, none⟩ (.slice (some ⟨gg, 0, none⟩) (n + 1) cap')).ownsRow B 55 1 (.slice (some ⟨gg, 0, none⟩) (n + 1) cap') (n + 1) (xs ++ ys) ∧ ((Value.slice (some ⟨gg, 0, none⟩) (n + 1) cap').ownBlock = v.ownBlock ∨ ∃ g, (Value.slice (some ⟨gg, 0, none⟩) (n + 1) cap').ownBlock = some g ∧ w4.heap.size ≤ g) := by
  have k0 : Keep v.ownBlock.toList w4 w1 := (hk5.mono (G := v.ownBlock.toList) (fun b hb => by simp at hb)).grown hgrow (fun b hb => Or.inl (by rw [hb]; simp))
  have nX : P ∉ v.ownBlock.toList := fun hm => own_ne hown hP (by decide) (by simpa using hm)
  have h1 : w1.heap[P]? = some (.cells cs 54 (0, 0)) := by rw [k0.block _ (heap_lt hP) nX]; exact hP
  have hg1 : (Value.slice (some ⟨gg, 0, none⟩) (n + 1) cap').ownBlock ≠ some P := own_ne hown1 h1 (by decide)
  have kset : Keep [P] w1 (w1.setCell ⟨P, j, none⟩ (.slice (some ⟨gg, 0, none⟩) (n + 1) cap')) := (Keep.refl _ _).setCell _ _ (Or.inl (by simp))
  refine ⟨heap_set h1 _ _, (k0.mono (G := P :: v.ownBlock.toList) (fun b hb => by simp at hb ⊢; exact Or.inr hb)).trans kset (fun b hb => Or.inl (by simp at hb; simp [hb])), own_keep hown1 kset (fun b hb hm => by simp at hm; subst hm; exact hg1 hb), ?_⟩
  rcases hat with e | e
  · exact Or.inl (by rw [e]; rfl)
  · exact Or.inr ⟨gg, rfl, e⟩
/-- The row of those that published is longer by one. -/
theorem PAt.pubs {w w' : World} {B P k : Nat} {p : Pa} {b : Nat → Nat} {V : Nat → Value} {vt vp v' : Value} (h : PAt w B P k p b V vt vp) {i : Nat} (hi : i < p.txs.length) (hw : w'.heap[P]? = some (.cells #[.int .i64 p.at_, vt, v', .int .i64 p.co] 54 (0, 0))) (hk : Keep (P :: vp.ownBlock.toList) w w')
    (ho : w'.ownsRow B 55 1 v' (p.pub.length + 1) (ptrsOf b p.pub ++ [ptr (b i)])) (hv : v'.ownBlock = vp.ownBlock ∨ ∃ g, v'.ownBlock = some g ∧ w.heap.size ≤ g) : PAt w' B P (k + 1) { p with pub := p.pub ++ [i] } b V vt v' := by
  have hno : ∀ {e : TypeId} {s n : Nat} {v : Value} {xs : List Value}, w.ownsRow B e s v n xs → 54 ≠ e → (∀ x, v.ownBlock = some x → vp.ownBlock ≠ some x) → ∀ x, v.ownBlock = some x → x ∉ (P :: vp.ownBlock.toList) := fun hr ht hd x hx hm => by
    simp only [List.mem_cons, Option.mem_toList] at hm
    rcases hm with rfl | hm
    · exact own_ne hr h.pa ht hx
    · exact hd x hx hm
  have hxb : ∀ j, j < p.txs.length → b j ∉ (P :: vp.ownBlock.toList) := fun j hj hm => by
    simp only [List.mem_cons, Option.mem_toList] at hm
    rcases hm with hm | hm
    · exact h.bx hj hm
    · exact own_ne h.ps (h.tx j hj) (by decide) hm
  have hap : ∀ j, j < p.txs.length → ∀ x, (V j).ownBlock = some x → vp.ownBlock ≠ some x := fun j hj x hx hc => by
    obtain ⟨g, cap, cur, rfl, _, hg, _⟩ := h.ps.2.resolve_left (fun e => by rw [e.1] at hc; simp [Value.ownBlock] at hc)
    simp [Value.ownBlock] at hc
    subst hc
    exact own_ne (h.ac j hj) hg (by decide) hx
  refine ⟨hw, h.pB, own_keep h.ts hk (hno h.ts (by decide) h.tp), ?_, fun x hx hc => ?_, fun j hj => ?_, fun j hj => ?_, h.bB, h.bi, fun j hj => own_keep (h.ac j hj) hk (hno (h.ac j hj) (by decide) (hap j hj)), h.av, ?_⟩
  · have : (p.pub ++ [i]).length = p.pub.length + 1 := by simp
    show w'.ownsRow B 55 1 v' (p.pub ++ [i]).length (ptrsOf b (p.pub ++ [i]))
    rw [this, show ptrsOf b (p.pub ++ [i]) = ptrsOf b p.pub ++ [ptr (b i)] by simp [ptrsOf]]
    exact ho
  · rcases hv with hv | ⟨g, hv, hg⟩
    · rw [hv] at hc
      exact h.tp x hx hc
    · rw [hv] at hc
      have := (own_block h.ts x hx).2
      simp at hc
      omega
  · simp only [List.mem_append, List.mem_singleton] at hj
    rcases hj with hj | rfl
    · exact h.pl j hj
    · exact hi
  · rw [hk.block _ (heap_lt (h.tx j hj)) (hxb j hj)]
    exact h.tx j hj
  · have := h.bd
    refine ⟨by show p.txs.length ≤ k + 1; omega, by simp; omega, this.2.2.1, by show p.co ≤ ((k + 1 : Nat) : Int); omega, fun j hj => by have := this.2.2.2.2 j hj; show (nt p.txs j).ac.length ≤ k + 1; omega⟩
set_option maxRecDepth 100000 in
set_option maxHeartbeats 3200000 in
theorem publish_yes {w : World} {B P k : Nat} {p : Pa} {b : Nat → Nat} {V : Nat → Value} {vt vp : Value} (h : PAt w B P k p b V vt vp) (hB : B ≤ w.heap.size) (hkb : k ≤ 925925926000) {i : Nat} (hi : i < p.txs.length) (e : Ev) (hs : (nt p.txs i).sg = 1 ∧ e.sp = (p.pub.length : Int) + 1) :
    Calls Tryd.prog 34 #[ptr P, ptr (b i), evV e] w fun x w' => x = .returned (.bool true) ∧ (∃ v', PAt w' B P (k + 1) { (p.upd i { nt p.txs i with sg := 2, en := e.at_, st := e.sp, sn := e.sp - 1 }) with pub := p.pub ++ [i] } b V vt v') ∧ Below B w w' := by
  obtain ⟨i0, hi0, hz0, hz1, hz2⟩ := info_parts info_ptx
  have hx := h.tx i hi
  have hlt := heap_lt hx
  have hlP := heap_lt h.pa
  have hne : b i ≠ P := h.bx hi
  have hne2 : P ≠ b i := hne.symm
  have hc6 : w.cell? ⟨b i, 6, none⟩ = some (.int .i64 1) := by rw [cell_at hx]; simp [txC, hs.1]
  have hc2 : w.cell? ⟨b i, 2, none⟩ = some (.int .i64 (nt p.txs i).en) := by rw [cell_at hx]; simp [txC]
  have hc3 : w.cell? ⟨b i, 3, none⟩ = some (.int .i64 (nt p.txs i).st) := by rw [cell_at hx]; simp [txC]
  have hc4 : w.cell? ⟨b i, 4, none⟩ = some (.int .i64 (nt p.txs i).sn) := by rw [cell_at hx]; simp [txC]
  have hp2 : w.cell? ⟨P, 2, none⟩ = some vp := by rw [cell_at h.pa]; simp
  have hf6 := frozen_at hx 6
  have hf2 := frozen_at hx 2
  have hf3 := frozen_at hx 3
  have hf4 := frozen_at hx 4
  have hpf2 := frozen_at h.pa 2
  have hw2 : wrap64 (e.sp - 1) = e.sp - 1 := wrap_sub _ _ (bd_pub h hkb) hs.2
  have hdd : (e.sp != (p.pub.length : Int) + 1) = false := by rw [hs.2]; simp
  have hpl := bd_pub h hkb
  have hown := h.ps
  have HE : Hid (∀ o n, PAt ((((((w.alloc o).drewN n).setCell ⟨b i, 6, none⟩ (.int .i64 2)).setCell ⟨b i, 2, none⟩ (.int .i64 e.at_)).setCell ⟨b i, 3, none⟩ (.int .i64 e.sp)).setCell ⟨b i, 4, none⟩ (.int .i64 (e.sp - 1))).drew B P k (p.upd i { nt p.txs i with sg := 2, en := e.at_, st := e.sp, sn := e.sp - 1 }) b V vt vp ∧ Keep [b i] w ((((((w.alloc o).drewN n).setCell ⟨b i, 6, none⟩ (.int .i64 2)).setCell ⟨b i, 2, none⟩ (.int .i64 e.at_)).setCell ⟨b i, 3, none⟩ (.int .i64 e.sp)).setCell ⟨b i, 4, none⟩ (.int .i64 (e.sp - 1))).drew) := fun o n => by
    have k0 : Keep [] w ((w.alloc o).drewN n) := ((Keep.refl [] _).alloc o).drewN n
    have h0 := h.keep k0 (fun x hx => by simp at hx)
    have hx0 := h0.tx i hi
    have k1 : Keep [b i] ((w.alloc o).drewN n) ((((((w.alloc o).drewN n).setCell ⟨b i, 6, none⟩ (.int .i64 2)).setCell ⟨b i, 2, none⟩ (.int .i64 e.at_)).setCell ⟨b i, 3, none⟩ (.int .i64 e.sp)).setCell ⟨b i, 4, none⟩ (.int .i64 (e.sp - 1))) := ((((Keep.refl _ _).setCell _ _ (Or.inl (by simp))).setCell _ _ (Or.inl (by simp))).setCell _ _ (Or.inl (by simp))).setCell _ _ (Or.inl (by simp))
    have h1 := h0.set hi (t := { nt p.txs i with sg := 2, en := e.at_, st := e.sp, sn := e.sp - 1 }) rfl (by rw [heap_set (heap_set (heap_set (heap_set hx0 _ _) _ _) _ _) _ _]; simp [txC]) k1
    exact ⟨h1.keep (Keep.drew (Keep.refl [] _)) (fun x hx => by simp at hx), Keep.drew (Keep.behind k0 k1 (by simp; exact hlt))⟩
  have HK : Hid (i < p.txs.length) := hi
  have HBX : Hid (B ≤ P ∧ B ≤ b i) := ⟨h.pB, h.bB i hi⟩
  clear h hx hs hi hkb
  generalize hq : p.upd i { nt p.txs i with sg := 2, en := e.at_, st := e.sp, sn := e.sp - 1 } = q at *
  have hqp : Hid (q.pub = p.pub ∧ q.txs.length = p.txs.length) := by rw [Hid, ← hq]; exact ⟨rfl, by simp [Pa.upd]⟩
  clear hq
  generalize hX : b i = X at *
  generalize nt p.txs i = t at *
  have hpe : p.pub.length = q.pub.length := by rw [hqp.out.1]
  have HPP : Hid (p.pub = q.pub) := hqp.out.1.symm
  rw [hpe] at hdd hpl
  obtain ⟨sa, cap, rfl⟩ := own_slice hown
  rw [hpe] at hp2 HE
  clear hown
  obtain ⟨a, th, tx, kd, cl, vl, ow, sr, sn, sp, sg, er⟩ := e
  unfold evV evA ptr
  dsimp only at *
  generalize hn : q.pub.length = n at *
  go_enter Tryd.func34, Tryd.ntmps34
  go_wp2
  go_quiet (fail)
  go_wp2
  go_cut [] (fun wx => PAt wx B P k q b V vt (.slice sa n cap) ∧ Keep [X] w wx)
  case first =>
    go_region
    go_wp2_with fail
    go_meet
    exact HE.out _ _
  case rest =>
    obtain ⟨hc1, hk1⟩ := hcut
    have hlP1 := heap_lt hc1.pa
    have hlX : P < wc.heap.size + 1 := by omega
    have hp2' : wc.cell? ⟨P, 2, none⟩ = some (.slice sa n cap) := by rw [cell_at hc1.pa]; simp
    have hpf' := frozen_at hc1.pa 2
    have HP : Hid (wc.heap[P]? = some (.cells #[.int .i64 q.at_, vt, .slice sa n cap, .int .i64 q.co] 54 (0, 0))) := hc1.pa
    have HOWN : Hid (wc.ownsRow B 55 1 (.slice sa n cap) n (ptrsOf b q.pub)) := by have := hc1.ps; rw [hn] at this; exact this
    have hPv : (Value.slice sa n cap).ownBlock ≠ some P := own_ne HOWN.out hc1.pa (by decide)
    have hB1 : B ≤ wc.heap.size := Nat.le_trans hB hk1.size
    have HE2 : Hid (∀ (w' : World) (v' : Value), w'.heap[P]? = some (.cells #[.int .i64 q.at_, vt, v', .int .i64 q.co] 54 (0, 0)) → Keep (P :: (Value.slice sa n cap).ownBlock.toList) wc w' → w'.ownsRow B 55 1 v' (n + 1) (ptrsOf b q.pub ++ [ptr X]) → (v'.ownBlock = (Value.slice sa n cap).ownBlock ∨ ∃ g, v'.ownBlock = some g ∧ wc.heap.size ≤ g) → PAt w' B P (k + 1) { q with pub := p.pub ++ [i] } b V vt v') := fun w' v' hw hk ho hv => by
      rw [HPP.out]
      exact hc1.pubs (by rw [hqp.out.2]; exact HK.out) hw hk (by rw [hn, hX]; exact ho) hv
    have HK1 : Hid (Keep [X] w wc) := hk1
    have HOB : Hid (∀ x, (Value.slice sa n cap).ownBlock = some x → x < wc.heap.size ∧ B ≤ x) := fun x hx => ⟨(own_block HOWN.out x hx).2, (own_block HOWN.out x hx).1⟩
    have hlen : (ptrsOf b q.pub).length = n := by simp [ptrsOf, hn]
    clear hc1 hk1 hp2 hpf2 HE hf6 hf2 hf3 hf4 hc6 hc2 hc3 hc4
    generalize ptrsOf b q.pub = xs at *
    go_wp2_with (at_builtin; refine list_lies_wide _ rfl _ _ 52 rfl B 55 i0 _ 1 8 Tryd.underlying52 hi0 hz0 hz1 hz2 rfl (by decide) _ _ _ rfl (HOWN.out.alloc _) ⟨wc.heap.size, 0, none⟩ 1 1 [.pointer (some ⟨X, 0, none⟩)] rfl rfl (World.news_of_block (cs := #[.pointer (some ⟨X, 0, none⟩)]) (t := 55) (fr := (0, 0)) (heap_alloc_new wc _)) (by simp [Value.oneCell']) (by decide) (by unfold maxLen; omega) (by omega) (by simp; omega) _ rfl ?_)
    intro gg cap' w1 hown1 hgrow hat hlt3
    have hs1 : w1.cell? ⟨P, 2, none⟩ = some (.slice sa n cap) := by rw [hgrow.cell_far _ (by simp; omega) (Ne.symm hPv)]; simp [hlP1, World.cell?_alloc_past, hp2']
    have hs2 : w1.frozen? ⟨P, 2, none⟩ = false := by rw [hgrow.frozen_far _ (by simp; omega) (Ne.symm hPv)]; rw [World.frozen?_alloc_past _ _ _ hlP1]; exact hpf'
    obtain ⟨e1, e2, e3, e4⟩ := row_end (j := 2) HP.out HOWN.out ((Keep.refl [] wc).alloc _) hown1 hgrow (by rcases hat with h1 | h1; exact Or.inl h1; exact Or.inr (by omega))
    go_wp2_with fail
    go_ret
    refine ⟨rfl, ⟨_, HE2.out _ _ (by rw [e1]; simp) e2 e3 e4⟩, ?_⟩
    refine (HK1.out.below hB (by intro x hx; simp at hx; subst hx; exact HBX.out.2)).trans (e2.below hB1 ?_)
    intro x hx
    simp only [List.mem_cons, Option.mem_toList] at hx
    rcases hx with rfl | hx
    · exact HBX.out.1
    · exact (HOB.out x hx).2
end Go.Proofs.YtadollckekddgaaDoor.Hi
