/- The document's Read, Reads, Sig. -/
import Derived.Test.YtfpnpkpjkcmoaaaLogF
namespace Go.Proofs.Ytfpnpkpjkcmoaaa
open Go.ChangeShapes Go.WideShapes Go.ChangeAt Go.RowKit

theorem tC_len (T : List Int) : (tC T).length = T.length := by simp [tC]
theorem tC_get (T : List Int) (i : Nat) (h : i < T.length) : (tC T)[i]? = some (.int .i64 (T.getD i 0)) := by simp [tC, h]
/-- A row of numbers is a list behind a slice. -/
theorem own_list {w : World} {base : Nat} {v : Value} {T : List Int} (h : w.ownsRow base 3 1 v T.length (tC T)) (hl : T.length ≤ 1000000) : Sg.Lst w v T := by
  rcases h.2 with ⟨h1, h2⟩ | ⟨g, cap, cur, rfl, hb, hg, hn, hm, hc, ht⟩
  · obtain ⟨va, vc, e⟩ := own_slice h
    exact ⟨va, vc, e, by omega, Or.inl (List.length_eq_zero_iff.1 h2)⟩
  · refine ⟨some ⟨g, 0, none⟩, cap, rfl, by omega, Or.inr ⟨_, rfl, fun i hi => ?_⟩⟩
    rw [Sg.add_at]
    exact own_cells h i _ (tC_get T i hi)
theorem own_kept {w w' : World} {base : Nat} {e : TypeId} {s n : Nat} {v : Value} {xs : List Value} (h : w.ownsRow base e s v n xs) (hb : Below w.heap.size w w') : w'.ownsRow base e s v n xs := own_keep h (Keep.of_below hb []) (fun _ _ => by simp)
theorem rlreads_any {w : World} {base : Nat} {p : Value} {s : Tb} {T : List Int} {G : List Nat} (h : RLog w base p s T G) (hT : Told T) : Calls Try.prog 26 #[p] w fun e w' => e = .returned (Sg.sv (Sg.ofAll T)) ∧ Below w.heap.size w w' := by
  obtain ⟨Y, q, t, G', h⟩ := h
  obtain rfl := h.p
  have h0 : w.cell? ⟨Y, 1, none⟩ = some t := by rw [cell_at h.log]; rfl
  have HO : Hid (∀ w', Below w.heap.size w w' → Calls Try.prog 41 #[t] w' fun e w'' => e = .returned (.agg (Sg.sc (Sg.ofAll T))) ∧ Below w'.heap.size w' w'') := fun w' hb => Sg.rof_any w' t T (own_list (own_kept h.told hb) (Nat.le_trans hT.len (by decide)))
  have hz : (Sg.sc (Sg.ofAll T)).size = 8 := by rw [Sg.sc_size]; exact (Sg.ok_ofAll T).1
  have h1 := Sg.sc_one (Sg.ofAll T)
  obtain ⟨ta, tc, rfl⟩ := own_slice h.told
  have hY : Y < w.heap.size := heap_lt h.log
  have hYn : Y ≠ w.heap.size := by omega
  clear h
  unfold Sg.sv
  generalize Sg.sc (Sg.ofAll T) = cs at *
  go_enter Try.func26, Try.ntmps26
  go_wp2_with fail
  refine (HO.out _ (below_a1 _ _)).mono ?_
  rintro e w1 ⟨rfl, hb1⟩
  have HB1 : Hid (Below w.heap.size w w1) := below_then (below_a1 _ _) hb1
  have HR1 : Hid (w1.heap[w.heap.size]? = some (.cells (Sg.sc Sg.nought) 44 (0, 0))) := Sg.row_later (heap_alloc_new _ _) hb1
  have hst := Sg.store_row (P := Try.prog) HR1.out rfl hz h1
  clear hb1
  go_wp2
  exact Sg.ret_sig rfl rfl (setRow_heap _ _ _ _ _ _ HR1.out) hz rfl ⟨rfl, Sg.below_setRow HB1.out _ (Nat.le_refl _) _⟩
theorem tC_take (R : List Wr) (i : Nat) (h : i < R.length) : tC ((R.map (·.c)).take (i + 1)) = tC ((R.map (·.c)).take i) ++ [.int .i64 (R.getD i noWr).c] := by
  simp [tC, List.take_add_one, h]
set_option maxRecDepth 10000 in
theorem rlsig_any {w : World} {base : Nat} {p : Value} {s : Tb} {T : List Int} {G : List Nat} (h : RLog w base p s T G) (hi : Inv s) : Calls Try.prog 27 #[p] w fun e w' => e = .returned (Sg.sv (wrS s)) ∧ Below w.heap.size w w' := by
  obtain ⟨i0, hinf, hz0, hz1, hz2⟩ := info_parts info_int
  have HH : Hid (∀ w', Below w.heap.size w w' → RLog w' base p s T G) := fun w' hb => h.below hb
  obtain ⟨Y, q, t, G', h⟩ := h
  obtain rfl := h.p
  have HP : Hid (∀ w', Below w.heap.size w w' → Calls Try.prog 42 #[q] w' fun e w'' => ∃ v, e = .returned v ∧ w''.ownsRow w'.heap.size 39 2 v s.R.length (rowsC s.R) ∧ Below w'.heap.size w' w'') := fun w' hb => rlist_any (h.tab.below hb) hi
  have h0 : w.cell? ⟨Y, 0, none⟩ = some q := by rw [cell_at h.log]; rfl
  obtain ⟨X, rfl⟩ := h.tab.ptr
  have hY : Y < w.heap.size := heap_lt h.log
  have hYn : Y ≠ w.heap.size := by omega
  have hl : s.R.length ≤ 24 := Nat.le_trans hi.len hi.m24
  have HG : Hid (∀ q, q < s.R.length → (rowsC s.R)[q * 2]? = some (.int .i64 (s.R.getD q noWr).c) ∧ (rowsC s.R)[q * 2 + 1]? = some (.int .i64 (s.R.getD q noWr).v)) := fun q hq => rowsC_get s.R q hq
  have HT : Hid (∀ i, i < s.R.length → tC ((s.R.map (·.c)).take (i + 1)) = tC ((s.R.map (·.c)).take i) ++ [.int .i64 (s.R.getD i noWr).c]) := fun i hi => tC_take s.R i hi
  have HO : Hid (∀ w b v, World.ownsRow w b 3 1 v s.R.length (tC ((s.R.map (·.c)).take s.R.length)) → Calls Try.prog 41 #[v] w fun e w'' => e = .returned (.agg (Sg.sc (wrS s))) ∧ Below w.heap.size w w'') := fun w b v ho => by
    have e : (s.R.map (·.c)).length = s.R.length := by simp
    rw [List.take_of_length_le (by omega), ← e] at ho
    exact Sg.rof_any w v _ (own_list ho (by omega))
  have hz : (Sg.sc (wrS s)).size = 8 := by rw [Sg.sc_size]; exact (wrS_ok s).1
  have h1 := Sg.sc_one (wrS s)
  clear h hi HH
  unfold Sg.sv
  generalize Sg.sc (wrS s) = cs at *
  generalize rowsC s.R = xs at *
  generalize s.R.length = n at *
  go_enter Try.func27, Try.ntmps27
  go_wp2_with fail
  refine (HP.out _ (below_a1 _ _)).mono ?_
  rintro e w1 ⟨v1, rfl, ho1, hb1⟩
  have HB1 : Hid (Below w.heap.size w w1) := below_then (below_a1 _ _) hb1
  have HR1 : Hid (w1.heap[w.heap.size]? = some (.cells (Sg.sc Sg.nought) 44 (0, 0))) := Sg.row_later (heap_alloc_new _ _) hb1
  have HO1 : Hid (w1.ownsRow (w.heap.size + 1) 39 2 v1 n xs) := by rw [Hid]; simpa using ho1
  obtain ⟨va, vc, rfl⟩ := own_slice ho1
  clear ho1 hb1
  go_wp2
  go_loopw [4, 5] (fun ov iv wr => ∃ i : Nat, i ≤ n ∧ iv = .int .i64 i ∧ wr.ownsRow w1.heap.size 3 1 ov i (tC ((s.R.map (·.c)).take i)) ∧ Below w1.heap.size w1 wr) (fun _ iv _ => n - (intOf iv).toNat)
  case atStart => exact ⟨0, Nat.zero_le _, rfl, by simpa [tC] using World.ownsRow_nil _ _ _ _, Below.refl _ _⟩
  case round =>
    obtain ⟨q, hq, rfl, how, hb⟩ := hrel
    have HO2 : Hid (wr.ownsRow w1.heap.size 3 1 u4 q (tC ((s.R.map (·.c)).take q))) := how
    have HB : Hid (Below w1.heap.size w1 wr) := hb
    obtain ⟨av, cv, rfl⟩ := own_slice how
    clear how hb
    by_cases hlt : q < n
    · have hd : decide ((q : Int) < (n : Int)) = true := by simp; omega
      obtain ⟨g, cap, hform, hg1, hg2⟩ := HO1.out.form (by omega)
      obtain ⟨rfl, _, rfl⟩ : va = some ⟨g, 0, none⟩ ∧ n = n ∧ vc = cap := by simpa using hform
      clear hform
      obtain ⟨k1, k2⟩ := HG.out q hlt
      have d0 : wr.cell? ⟨g, q * 2, none⟩ = some (.int .i64 (s.R.getD q noWr).c) := cell_later HB.out hg2 (own_cells HO1.out _ _ k1)
      have HNX : Hid (tC ((s.R.map (·.c)).take (q + 1)) = tC ((s.R.map (·.c)).take q) ++ [.int .i64 (s.R.getD q noWr).c]) := HT.out q hlt
      clear k1 k2
      generalize (s.R.getD q noWr).c = zc at *
      generalize tC ((s.R.map (·.c)).take q) = ys at *
      have hsz := HB.out.size
      go_wp2_with (at_builtin; refine wpList_append_lies _ rfl _ _ 36 rfl w1.heap.size 3 i0 _ 1 8 Try.underlying36 hinf hz0 hz1 hz2 rfl (by decide) _ _ _ rfl (HO2.out.alloc _) ⟨wr.heap.size, 0, none⟩ 1 1 [.int .i64 zc] rfl rfl ?c1 ?c2 (by decide) ?c3 ?c4 ?c5 _ rfl ?_)
      case c2 => simp [Value.oneCell']
      case c3 => unfold maxLen; omega
      case c4 => omega
      case c5 => first | omega | (simp; omega)
      intro gg cap' w3 hown1 hgrow hat _
      have HO3 : Hid (w3.ownsRow w1.heap.size 3 1 (.slice (some ⟨gg, 0, none⟩) (q + 1) cap') (q + 1) (tC ((s.R.map (·.c)).take (q + 1)))) := by
        rw [Hid, HNX.out]; exact hown1
      have HB3 : Hid (Below w1.heap.size w1 w3) := (below_alloc HB.out _).grown hgrow (by simp; omega) (fun b hb => (own_block HO2.out b hb).1)
      clear hown1 hgrow hat d0
      go_wp2
      go_roundw
      case rel => exact ⟨q + 1, by omega, by go_num, HO3.out, HB3.out⟩
      case measure => simp [intOf]; omega
    · obtain rfl : q = n := by omega
      have HC : Hid (Calls Try.prog 41 #[.slice av q cv] wr fun e w'' => e = .returned (.agg cs) ∧ Below wr.heap.size wr w'') := HO.out wr _ _ HO2.out
      go_wp2_with fail
      refine HC.out.mono ?_
      rintro e w4 ⟨rfl, hb4⟩
      have HB4 : Hid (Below w.heap.size w w4) := below_then (below_then HB1.out HB.out) hb4
      have HR4 : Hid (w4.heap[w.heap.size]? = some (.cells (Sg.sc Sg.nought) 44 (0, 0))) := Sg.row_later (Sg.row_later HR1.out HB.out) hb4
      have hst := Sg.store_row (P := Try.prog) HR4.out rfl hz h1
      clear hb4
      go_wp2
      exact Sg.ret_sig rfl rfl (setRow_heap _ _ _ _ _ _ HR4.out) hz rfl ⟨rfl, Sg.below_setRow HB4.out _ (Nat.le_refl _) _⟩
/-- What is so while Read looks at what was told. -/
theorem told_seen (T : List Int) (c : Int) (i : Nat) (h : i < T.length) : (right c && !(T.take (i + 1)).contains c) = ((right c && !(T.take i).contains c) && (T.getD i 0 != c)) := by
  have e : T.take (i + 1) = T.take i ++ [T.getD i 0] := by rw [List.take_add_one]; simp [h]
  rw [e, List.contains_append, Bool.and_assoc]
  congr 1
  by_cases hc : T.getD i 0 = c
  · rw [hc]; simp
  · have h1 : ¬ c = T.getD i 0 := fun e => hc e.symm
    have h2 : (T.getD i 0 != c) = true := by simp only [bne_iff_ne]; exact hc
    have h3 : [T.getD i 0].contains c = false := by
      rw [List.contains_eq_mem, decide_eq_false_iff_not, List.mem_singleton]; exact h1
    rw [h2, h3]; simp
/-- One more is told. -/
theorem RLog'.more {w w3 : World} {base : Nat} {p : Value} {s : Tb} {T : List Int} {G : List Nat} {Y : Nat} {q v : Value} {G' : List Nat} {o : Obj} {c : Int} {v' : Value} (h : RLog' w base p s T G Y q v G')
    (hown : w3.ownsRow base 3 1 v' (T.length + 1) (tC T ++ [.int .i64 c])) (hg : (w.alloc o).grownBy w3 v.ownBlock) (hat : v'.ownBlock = v.ownBlock ∨ ∃ g, v'.ownBlock = some g ∧ w.heap.size ≤ g) :
    ∃ G3, RLog (w3.setCell ⟨Y, 1, none⟩ v') base p s (T ++ [c]) G3 ∧ Next G G3 w (w3.setCell ⟨Y, 1, none⟩ v') := by
  have hYv : v.ownBlock ≠ some Y := own_ne h.told h.log (by decide)
  have hlog := grown_block h.log hYv hg
  have hYv' : v'.ownBlock ≠ some Y := own_ne hown hlog (by decide)
  have hk : Keep (Y :: v.ownBlock.toList) w w3 := ((Keep.refl _ w).alloc o).grown hg (fun b hb => Or.inl (by rw [hb]; simp))
  have hk2 : Keep (Y :: v.ownBlock.toList) w (w3.setCell ⟨Y, 1, none⟩ v') := hk.setCell _ _ (by simp)
  have hnew : ∀ b, v'.ownBlock = some b → b ∉ G' := fun b hb hm => by
    rcases hat with e | ⟨g, e, hge⟩
    · exact h.aT b (by rw [← e]; exact hb) hm
    · rw [e] at hb
      simp at hb
      subst hb
      have := (h.tab.lt _ hm).2
      omega
  refine ⟨Y :: v'.ownBlock.toList ++ G', ⟨Y, q, v', G', h.p, by rw [heap_set hlog]; rfl, h.tab.keep hk2 (fun b hb hm => ?_), ?_, rfl, h.bY, h.aY, hnew⟩, ?_, fun b hb' => ?_⟩
  · simp only [List.mem_cons, Option.mem_toList] at hm
    rcases hm with rfl | hm
    · exact h.aY hb
    · exact h.aT b (by simpa using hm) hb
  · have e : tC (T ++ [c]) = tC T ++ [.int .i64 c] := by simp [tC]
    rw [e, List.length_append]
    exact own_keep hown ((Keep.refl [Y] _).setCell _ _ (by simp)) (fun b hb hm => by simp at hm; subst hm; exact hYv' hb)
  · rw [h.F]; exact hk2.mono (fun b hb => by simp only [List.cons_append, List.mem_cons, List.mem_append] at hb ⊢; rcases hb with hb | hb; exact Or.inl hb; exact Or.inr (Or.inl hb))
  · rw [h.F]
    simp only [List.cons_append, List.mem_cons, List.mem_append, Option.mem_toList] at hb' ⊢
    rcases hb' with e | e | e
    · exact Or.inl (Or.inl e)
    · rcases hat with e1 | ⟨g, e1, hge⟩
      · exact Or.inl (Or.inr (Or.inl (by rw [← e1]; exact e)))
      · rw [e1] at e
        simp at e
        subst e
        exact Or.inr hge
    · exact Or.inl (Or.inr (Or.inr e))
set_option maxRecDepth 10000 in
theorem rlread_any {w : World} {base : Nat} {p : Value} {s : Tb} {T : List Int} {G : List Nat} (h : RLog w base p s T G) (hT : Told T) (hb : base ≤ w.heap.size) (c : Int) : Calls Try.prog 25 #[p, .int .i64 c] w fun e w' => e = .returned (.tuple #[]) ∧ ∃ G', RLog w' base p s (told T c) G' ∧ Next G G' w w' := by
  obtain ⟨i0, hinf, hz0, hz1, hz2⟩ := info_parts info_int
  have HR : Hid (∀ w, Calls Try.prog 40 #[.int .i64 c] w fun e w' => e = .returned (.bool (right c)) ∧ w' = w) := fun w => rright_any c w
  obtain ⟨Y, q, t, G', h⟩ := h
  obtain rfl := h.p
  have HL : Hid (RLog' w base (.pointer (some ⟨Y, 0, none⟩)) s T G Y q t G') := h
  have h1 : w.cell? ⟨Y, 1, none⟩ = some t := by rw [cell_at h.log]; rfl
  have f1 := frozen_at h.log 1
  have hY : Y < w.heap.size := heap_lt h.log
  have HO : Hid (w.ownsRow base 3 1 t T.length (tC T)) := h.told
  have hlen := hT.len
  obtain ⟨ta, tc, rfl⟩ := own_slice h.told
  have HS : Hid (∀ i, i < T.length → (right c && !(T.take (i + 1)).contains c) = ((right c && !(T.take i).contains c) && (T.getD i 0 != c))) := fun i hi => told_seen T c i hi
  have HG : Hid (∀ i, i < T.length → (tC T)[i]? = some (.int .i64 (T.getD i 0))) := fun i hi => tC_get T i hi
  have H0 : Hid (right c = (right c && !(T.take 0).contains c)) := by simp [Hid]
  have HE : Hid (∀ b, (right c && !(T.take T.length).contains c) = b → told T c = if b then T ++ [c] else T) := by
    rintro b rfl
    rw [List.take_length]
    rfl
  have HM : Hid (∀ (w3 : World) (o : Obj) v', w3.ownsRow base 3 1 v' (T.length + 1) (tC T ++ [.int .i64 c]) → (w.alloc o).grownBy w3 (Value.ownBlock (.slice ta T.length tc)) → (v'.ownBlock = (Value.ownBlock (.slice ta T.length tc)) ∨ ∃ g, v'.ownBlock = some g ∧ w.heap.size ≤ g) → ∃ G3, RLog (w3.setCell ⟨Y, 1, none⟩ v') base (.pointer (some ⟨Y, 0, none⟩)) s (T ++ [c]) G3 ∧ Next G G3 w (w3.setCell ⟨Y, 1, none⟩ v')) := fun w3 o v' a1 a2 a3 => HL.out.more a1 a2 a3
  have HK : Hid (∃ G', RLog w base (.pointer (some ⟨Y, 0, none⟩)) s T G' ∧ Next G G' w w) := ⟨G, ⟨Y, q, _, G', h⟩, Next.refl _ _⟩
  have HLOG : Hid (w.heap[Y]? = some (.cells #[q, .slice ta T.length tc] 64 (0, 0)) ∧ (Value.ownBlock (.slice ta T.length tc)) ≠ some Y) := ⟨h.log, own_ne h.told h.log (by decide)⟩
  clear h hT HL
  generalize hn : T.length = n at *
  clear hn
  go_enter Try.func25, Try.ntmps25
  go_wp2_with fail
  refine (HR.out _).mono ?_
  rintro e w' ⟨rfl, rfl⟩
  go_wp2
  go_loopw [4, 5] (fun ov iv wr => ∃ i : Nat, i ≤ n ∧ iv = .int .i64 i ∧ ov = .bool (right c && !(T.take i).contains c) ∧ wr = w') (fun _ iv _ => n - (intOf iv).toNat)
  case atStart => exact ⟨0, Nat.zero_le _, rfl, by rw [← H0.out], rfl⟩
  case round =>
    obtain ⟨i, hi, rfl, rfl, rfl⟩ := hrel
    by_cases hlt : i < n
    · have hd : decide ((i : Int) < (n : Int)) = true := by simp; omega
      obtain ⟨g, cap, hform, hg1, hg2⟩ := HO.out.form (by omega)
      obtain ⟨rfl, _, rfl⟩ : ta = some ⟨g, 0, none⟩ ∧ n = n ∧ tc = cap := by simpa using hform
      clear hform
      have d0 := own_cells HO.out _ _ (HG.out i hlt)
      have HN : Hid ((right c && !(T.take (i + 1)).contains c) = ((right c && !(T.take i).contains c) && (T.getD i 0 != c))) := HS.out i hlt
      generalize T.getD i 0 = z at *
      generalize (right c && !(T.take i).contains c) = ok at *
      cases ok with
      | false =>
        go_wp2
        go_roundw
        case rel => exact ⟨i + 1, by omega, by go_num, by rw [HN.out]; rfl, by first | rfl | trivial⟩
        case measure => simp [intOf]; omega
      | true =>
        go_wp2
        go_roundw
        case rel => exact ⟨i + 1, by omega, by go_num, by rw [HN.out]; rfl, by first | rfl | trivial⟩
        case measure => simp [intOf]; omega
    · obtain rfl : i = n := by omega
      have HB : Hid (∃ b, (right c && !(T.take i).contains c) = b) := ⟨_, rfl⟩
      obtain ⟨b, hb⟩ := HB.out
      have HT : Hid (told T c = if b then T ++ [c] else T) := HE.out b hb
      rw [hb]
      clear hb
      cases b with
      | false =>
        go_wp2
        go_end0
        exact ⟨rfl, by rw [HT.out]; exact HK.out⟩
      | true =>
        have hYn : Y ≠ wr.heap.size := by omega
        go_wp2_with (at_builtin; refine wpList_append_lies _ rfl _ _ 36 rfl base 3 i0 _ 1 8 Try.underlying36 hinf hz0 hz1 hz2 rfl (by decide) _ _ _ rfl (HO.out.alloc _) ⟨wr.heap.size, 0, none⟩ 1 1 [.int .i64 c] rfl rfl ?c1 ?c2 (by decide) ?c3 ?c4 ?c5 _ rfl ?_)
        case c2 => simp [Value.oneCell']
        case c3 => unfold maxLen; omega
        case c4 => omega
        case c5 => first | omega | (simp; omega)
        intro gg cap' w3 hown1 hgrow hat _
        have hb3 := grown_block HLOG.out.1 HLOG.out.2 hgrow
        have e2 : w3.cell? ⟨Y, 1, none⟩ = some (.slice ta i tc) := by rw [cell_at hb3]; rfl
        have f2 := frozen_at hb3 1
        have HX : Hid (∃ G3, RLog (w3.setCell ⟨Y, 1, none⟩ (.slice (some ⟨gg, 0, none⟩) (i + 1) cap')) base (.pointer (some ⟨Y, 0, none⟩)) s (T ++ [c]) G3 ∧ Next G G3 wr (w3.setCell ⟨Y, 1, none⟩ (.slice (some ⟨gg, 0, none⟩) (i + 1) cap'))) := HM.out w3 _ _ hown1 hgrow (by
          rcases hat with e | e
          · exact Or.inl e.symm
          · exact Or.inr ⟨gg, rfl, by omega⟩)
        clear hown1 hgrow hat hb3 h1 f1
        go_wp2
        go_end0
        exact ⟨rfl, by rw [HT.out]; exact HX.out⟩
end Go.Proofs.Ytfpnpkpjkcmoaaa
