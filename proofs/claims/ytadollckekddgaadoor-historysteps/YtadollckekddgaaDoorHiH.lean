/- A transaction is opened. -/
import Derived.Test.YtadollckekddgaaDoorHiG
namespace Go.Proofs.YtadollckekddgaaDoor.Hi
open Go.ChangeShapes Go.WideShapes Go.ChangeAt Go.RowKit
set_option linter.unusedVariables false

def updB (b : Nat → Nat) (i x : Nat) : Nat → Nat := fun j => if j = i then x else b j
theorem ptrs_snoc (b : Nat → Nat) (n x : Nat) : ptrs (updB b n x) (n + 1) = ptrs b n ++ [ptr x] := by
  unfold ptrs updB
  rw [List.range_succ, List.map_append]
  congr 1
  · apply List.map_congr_left
    intro j hj
    rw [if_neg (by have := List.mem_range.1 hj; omega)]
  · simp
theorem PAt.opens {w w' : World} {B P k : Nat} {p : Pa} {b : Nat → Nat} {V : Nat → Value} {vt vp v' : Value} (h : PAt w B P k p b V vt vp) {X : Nat} {t : Tr} (hta : t.ac = []) (hw : w'.heap[P]? = some (.cells #[.int .i64 p.at_, v', vp, .int .i64 p.co] 54 (0, 0))) (hX : w'.heap[X]? = some (.cells (txC t (.slice none 0 0)) 58 (0, 0))) (hXn : w.heap.size ≤ X) (hB : B ≤ w.heap.size) (hk : Keep (P :: vt.ownBlock.toList) w w')
    (ho : w'.ownsRow B 55 1 v' (p.txs.length + 1) (ptrs b p.txs.length ++ [ptr X])) (hv : v'.ownBlock = vt.ownBlock ∨ ∃ g, v'.ownBlock = some g ∧ w.heap.size ≤ g) : PAt w' B P (k + 1) { p with txs := p.txs ++ [t] } (updB b p.txs.length X) (updV V p.txs.length (.slice none 0 0)) v' vp := by
  have hno : ∀ {e : TypeId} {s n : Nat} {v : Value} {xs : List Value}, w.ownsRow B e s v n xs → 54 ≠ e → (∀ x, v.ownBlock = some x → vt.ownBlock ≠ some x) → ∀ x, v.ownBlock = some x → x ∉ (P :: vt.ownBlock.toList) := fun hr ht hd x hx hm => by
    simp only [List.mem_cons, Option.mem_toList] at hm
    rcases hm with rfl | hm
    · exact own_ne hr h.pa ht hx
    · exact hd x hx hm
  have hxb : ∀ j, j < p.txs.length → b j ∉ (P :: vt.ownBlock.toList) := fun j hj hm => by
    simp only [List.mem_cons, Option.mem_toList] at hm
    rcases hm with hm | hm
    · exact h.bx hj hm
    · exact own_ne h.ts (h.tx j hj) (by decide) hm
  have hap : ∀ j, j < p.txs.length → ∀ x, (V j).ownBlock = some x → vt.ownBlock ≠ some x := fun j hj x hx hc => by
    obtain ⟨g, cap, cur, rfl, _, hg, _⟩ := h.ts.2.resolve_left (fun e => by rw [e.1] at hc; simp [Value.ownBlock] at hc)
    simp [Value.ownBlock] at hc
    subst hc
    exact own_ne (h.ac j hj) hg (by decide) hx
  have hl : (p.txs ++ [t]).length = p.txs.length + 1 := by simp
  have hnt : ∀ j, j ≤ p.txs.length → nt (p.txs ++ [t]) j = if j = p.txs.length then t else nt p.txs j := fun j hj => nt_snoc hj
  have hnil : w'.ownsRow B 87 3 (.slice none 0 0) 0 [] := ⟨rfl, Or.inl ⟨rfl, rfl⟩⟩
  have hpo : ptrsOf (updB b p.txs.length X) p.pub = ptrsOf b p.pub := List.map_congr_left (fun j hj => by unfold updB; rw [if_neg (by have := h.pl j hj; omega)])
  refine ⟨hw, h.pB, ?_, by rw [hpo]; exact own_keep h.ps hk (hno h.ps (by decide) (fun x hx hc => h.tp x hc hx)), fun x hx hc => ?_, fun j hj => ?_, fun j hj => ?_, fun j hj => ?_, fun i j hi hj hij => ?_, fun j hj => ?_, fun i j hi hj hij x hx => ?_, ?_⟩
  · show w'.ownsRow B 55 1 v' (p.txs ++ [t]).length (ptrs (updB b p.txs.length X) (p.txs ++ [t]).length)
    rw [hl, ptrs_snoc]
    exact ho
  · rcases hv with hv | ⟨g, hv, hg⟩
    · rw [hv] at hx
      exact h.tp x hx hc
    · rw [hv] at hx
      have := (own_block h.ps x hc).2
      simp at hx
      omega
  · have := h.pl j hj
    rw [hl]
    omega
  · rw [hl] at hj
    show w'.heap[updB b p.txs.length X j]? = some (.cells (txC (nt (p.txs ++ [t]) j) (updV V p.txs.length (.slice none 0 0) j)) 58 (0, 0))
    rw [hnt j (by omega)]
    unfold updB updV
    by_cases e : j = p.txs.length
    · rw [if_pos e, if_pos e, if_pos e]; exact hX
    · rw [if_neg e, if_neg e, if_neg e, hk.block _ (heap_lt (h.tx j (by omega))) (hxb j (by omega))]
      exact h.tx j (by omega)
  · rw [hl] at hj
    unfold updB
    by_cases e : j = p.txs.length
    · rw [if_pos e]; omega
    · rw [if_neg e]; exact h.bB j (by omega)
  · rw [hl] at hi hj
    unfold updB
    have hlt : ∀ j, j < p.txs.length → b j < w.heap.size := fun j hj => heap_lt (h.tx j hj)
    by_cases e1 : i = p.txs.length
    · have e2 : j ≠ p.txs.length := fun e => hij (e1.trans e.symm)
      rw [if_pos e1, if_neg e2]
      have := hlt j (by omega)
      omega
    · rw [if_neg e1]
      by_cases e2 : j = p.txs.length
      · rw [if_pos e2]
        have := hlt i (by omega)
        omega
      · rw [if_neg e2]
        exact h.bi i j (by omega) (by omega) hij
  · rw [hl] at hj
    show w'.ownsRow B 87 3 (updV V p.txs.length (.slice none 0 0) j) (nt (p.txs ++ [t]) j).ac.length (acsC (nt (p.txs ++ [t]) j).ac)
    rw [hnt j (by omega)]
    unfold updV
    by_cases e : j = p.txs.length
    · rw [if_pos e, if_pos e, hta]; exact hnil
    · rw [if_neg e, if_neg e]
      exact own_keep (h.ac j (by omega)) hk (hno (h.ac j (by omega)) (by decide) (hap j (by omega)))
  · rw [hl] at hi hj
    unfold updV at hx ⊢
    by_cases e1 : i = p.txs.length
    · rw [if_pos e1] at hx
      simp [Value.ownBlock] at hx
    · rw [if_neg e1] at hx
      by_cases e2 : j = p.txs.length
      · rw [if_pos e2]; simp [Value.ownBlock]
      · rw [if_neg e2]
        exact h.av i j (by omega) (by omega) hij x hx
  · have hb := h.bd
    refine ⟨by rw [hl]; omega, by show p.pub.length ≤ k + 1; omega, hb.2.2.1, by show p.co ≤ ((k + 1 : Nat) : Int); omega, fun j hj => ?_⟩
    rw [hl] at hj
    show (nt (p.txs ++ [t]) j).ac.length ≤ k + 1
    rw [hnt j (by omega)]
    by_cases e : j = p.txs.length
    · rw [if_pos e, hta]; simp
    · rw [if_neg e]; have := hb.2.2.2.2 j (by omega); omega
set_option maxRecDepth 100000 in
set_option maxHeartbeats 3200000 in
theorem open_yes {w : World} {B P k : Nat} {p : Pa} {b : Nat → Nat} {V : Nat → Value} {vt vp : Value} (h : PAt w B P k p b V vt vp) (hB : B ≤ w.heap.size) (hkb : k ≤ 925925926000) (e : Ev) (hs : e.tx = (p.txs.length : Int)) :
    Calls Tryd.prog 31 #[ptr P, evV e] w fun x w' => x = .returned (.bool true) ∧ (∃ b' V' v', PAt w' B P (k + 1) { p with txs := p.txs ++ [⟨e.th, e.at_, -1, 0, p.pub.length, 0, 0, []⟩] } b' V' v' vp) ∧ Below B w w' := by
  obtain ⟨i0, hi0, hz0, hz1, hz2⟩ := info_parts info_ptx
  have hlP := heap_lt h.pa
  have hp1 : w.cell? ⟨P, 1, none⟩ = some vt := by rw [cell_at h.pa]; simp
  have hp2 : w.cell? ⟨P, 2, none⟩ = some vp := by rw [cell_at h.pa]; simp
  have hdd : (e.tx != (p.txs.length : Int)) = false := by rw [hs]; simp
  have hb1 := bd_txs h hkb
  have hb2 := bd_pub h hkb
  have HP : Hid (PAt w B P k p b V vt vp) := h
  have hot := h.ts
  have hop := h.ps
  obtain ⟨sa, cap, rfl⟩ := own_slice hot
  obtain ⟨pa, pc, rfl⟩ := own_slice hop
  have HPB : Hid (B ≤ P) := h.pB
  clear h hs hkb hot hop
  generalize hn : p.txs.length = n at *
  generalize hm : p.pub.length = m at *
  obtain ⟨a, th, tx, kd, cl, vl, ow, sr, sn, sp, sg, er⟩ := e
  unfold evV evA ptr
  dsimp only at *
  go_enter Tryd.func31, Tryd.ntmps31
  go_wp2
  go_quiet (fail)
  go_wp2
  generalize hW : World.drewN (World.alloc w (.cells #[.int .i64 a, .int .i64 th, .int .i64 tx, .int .i64 kd, .int .i64 cl, .int .i64 vl, .bool ow, .int .i64 sr, .int .i64 sn, .int .i64 sp, .int .u64 (sg 0), .int .u64 (sg 1), .int .u64 (sg 2), .int .u64 (sg 3), .int .u64 (sg 4), .int .u64 (sg 5), .int .u64 (sg 6), .int .u64 (sg 7), .int .i64 er] 39)) nq = w2
  have k0 : Keep [] w w2 := by rw [← hW]; exact ((Keep.refl [] w).alloc _).drewN _
  have h2 := HP.out.keep k0 (fun x hx => by simp at hx)
  have he0 : w2.cell? ⟨w.heap.size, 0, none⟩ = some (.int .i64 a) := by rw [← hW, World.cell?_drewN]; simp
  have he1 : w2.cell? ⟨w.heap.size, 1, none⟩ = some (.int .i64 th) := by rw [← hW, World.cell?_drewN]; simp
  have hP2 : w2.heap[P]? = some (.cells #[.int .i64 p.at_, .slice sa n cap, .slice pa m pc, .int .i64 p.co] 54 (0, 0)) := h2.pa
  have hq1 : w2.cell? ⟨P, 1, none⟩ = some (.slice sa n cap) := by rw [cell_at hP2]; simp
  have hq2 : w2.cell? ⟨P, 2, none⟩ = some (.slice pa m pc) := by rw [cell_at hP2]; simp
  have hqf := frozen_at hP2 1
  have hlP2 := heap_lt hP2
  have HOWN : Hid (w2.ownsRow B 55 1 (.slice sa n cap) n (ptrs b n)) := by have := h2.ts; rw [hn] at this; exact this
  have hPv : (Value.slice sa n cap).ownBlock ≠ some P := own_ne HOWN.out hP2 (by decide)
  have hPX : P < w2.heap.size + 1 := by omega
  have hB2 : B ≤ w2.heap.size := Nat.le_trans hB k0.size
  have hlw : w.heap.size < w2.heap.size := by rw [← hW]; simp
  have HH2 : Hid (PAt w2 B P k p b V (.slice sa n cap) (.slice pa m pc)) := h2
  have HP2 : Hid (w2.heap[P]? = some (.cells #[.int .i64 p.at_, .slice sa n cap, .slice pa m pc, .int .i64 p.co] 54 (0, 0))) := hP2
  have HOB : Hid (∀ x, (Value.slice sa n cap).ownBlock = some x → x < w2.heap.size ∧ B ≤ x) := fun x hx => ⟨(own_block HOWN.out x hx).2, (own_block HOWN.out x hx).1⟩
  have HK0 : Hid (Below B w w2) := k0.below hB (fun x hx => by simp at hx)
  have hlen : (ptrs b n).length = n := ptrs_len _ _
  have HEV : Hid (w2.heap[w.heap.size]? = some (.cells #[.int .i64 a, .int .i64 th, .int .i64 tx, .int .i64 kd, .int .i64 cl, .int .i64 vl, .bool ow, .int .i64 sr, .int .i64 sn, .int .i64 sp, .int .u64 (sg 0), .int .u64 (sg 1), .int .u64 (sg 2), .int .u64 (sg 3), .int .u64 (sg 4), .int .u64 (sg 5), .int .u64 (sg 6), .int .u64 (sg 7), .int .i64 er] 39 (0, 0))) := by rw [Hid, ← hW]; exact heap_alloc_new w _
  clear k0 hW hP2 h2 HP hp1 hp2
  generalize hxs : ptrs b n = xs at *
  have hne : w.heap.size ≠ P := by intro e; rw [e] at hlP; omega
  have hne2 : P ≠ w.heap.size := hne.symm
  have hlw2 : w.heap.size < w2.heap.size + 1 := by omega
  have hPw : (Value.slice sa n cap).ownBlock ≠ some w.heap.size := own_ne HOWN.out HEV.out (by decide)
  go_region_law
    ((refine step_lies_wide _ (by rfl) _ _ _ (by rfl) B 55 i0 _ 1 8 Tryd.underlying52 hi0 hz0 hz1 hz2 rfl (by omega) (.slice sa n cap) n xs (by rfl) (((HOWN.out.alloc _).alloc _).drew)
        ⟨w2.heap.size + 1, 0, none⟩ 1 1 [.pointer (some ⟨w2.heap.size, 0, none⟩)] (by rfl) (by rfl) (World.news_of_block (cs := #[.pointer (some ⟨w2.heap.size, 0, none⟩)]) (t := 55) (fr := (0, 0)) (heap_alloc2_new w2 _ _)) (by simp [Value.oneCell'])
        (by omega) (by unfold maxLen; omega) (by omega) (by simp; omega) (w2.heap.size + 2) (by simp) ?_; intro gg cap' w1 hown1 hgrow hat hlt3; have hs1 : w1.cell? ⟨P, 1, none⟩ = some (.slice sa n cap) := (by rw [hgrow.cell_far _ (by simp; omega) (Ne.symm hPv)]; simp [hlP2, hPX, World.cell?_alloc_past, hq1]); have hs2 : w1.frozen? ⟨P, 1, none⟩ = false := (by rw [hgrow.frozen_far _ (by simp; omega) (Ne.symm hPv)]; rw [fr_drew, World.frozen?_alloc_past _ _ _ (by simp; omega), World.frozen?_alloc_past _ _ _ hlP2]; exact hqf)))
  all_goals
    go_wp2_with fail
    go_ret
    obtain ⟨e1, e2, e3, e4⟩ := row_end (j := 1) HP2.out HOWN.out ((((Keep.refl [] w2).alloc _).alloc _).drewN 1) hown1 hgrow (by rcases hat with h1 | h1; exact Or.inl h1; exact Or.inr (by omega))
    have hXb : w1.heap[w2.heap.size]? = some (.cells (txC ⟨th, a, -1, 0, m, 0, 0, []⟩ (.slice none 0 0)) 58 (0, 0)) := by
      rw [hgrow.block _ (by simp; omega) (fun e => by have := (HOB.out _ e.symm).1; omega)]
      exact heap_alloc2_old _ _ _
    refine ⟨rfl, ⟨_, _, _, HH2.out.opens (X := w2.heap.size) rfl (by rw [e1]; simp) ?_ (Nat.le_refl _) hB2 e2 (by rw [hn, hxs]; exact e3) e4⟩, HK0.out.trans (e2.below hB2 ?_)⟩
    · rw [heap_set_other _ _ (by omega)]
      exact hXb
    · intro x hx
      simp only [List.mem_cons, Option.mem_toList] at hx
      rcases hx with rfl | hx
      · exact HPB.out
      · exact (HOB.out x hx).2
end Go.Proofs.YtadollckekddgaaDoor.Hi
