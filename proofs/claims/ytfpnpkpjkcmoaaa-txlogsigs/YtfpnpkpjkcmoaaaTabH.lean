/- The document's Put. -/
import Derived.Test.YtfpnpkpjkcmoaaaTabG
namespace Go.Proofs.Ytfpnpkpjkcmoaaa
open Go.ChangeShapes Go.WideShapes Go.ChangeAt Go.RowKit

theorem rput_wrong {w : World} {base : Nat} {p : Value} {s : Tb} {G : List Nat} (h : RTab w base p s G) (hi : Inv s) (c v : Int) (hr : right c = false) : Calls Try.prog 38 #[p, .int .i64 c, .int .i64 v] w fun e w' => e = .returned (.int .i64 1) ∧ w' = w := by
  have HF : Hid (Calls Try.prog 48 #[p, .int .i64 c] w fun e w' => e = .returned (.int .i64 (findV s c)) ∧ w' = w) := rfind_any h hi c
  have HR : Hid (Calls Try.prog 40 #[.int .i64 c] w fun e w' => e = .returned (.bool false) ∧ w' = w) := by
    have := rright_any c w
    rw [hr] at this
    exact this
  obtain ⟨X, rfl⟩ := h.ptr
  clear h hi
  go_enter Try.func38, Try.ntmps38
  go_wp2_with fail
  refine HR.out.mono ?_
  rintro e w' ⟨rfl, rfl⟩
  go_wp2_with fail
  refine HF.out.mono ?_
  rintro e w' ⟨rfl, rfl⟩
  go_wp2
  go_ret
  exact ⟨rfl, rfl⟩

set_option maxRecDepth 10000 in
theorem rput_old {w : World} {base : Nat} {p : Value} {s : Tb} {G : List Nat} (h : RTab w base p s G) (hi : Inv s) (c v : Int) (hr : right c = true) (i : Nat) (ha : at? s.R c = some i) : Calls Try.prog 38 #[p, .int .i64 c, .int .i64 v] w fun e w' => e = .returned (.int .i64 0) ∧ ∃ G', RTab w' base p { s with R := s.R.set i ⟨c, v⟩ } G' ∧ Next G G' w w' := by
  have e3 : findV s c = (i : Int) := by simp [findV, ha]
  have HF : Hid (Calls Try.prog 48 #[p, .int .i64 c] w fun e w' => e = .returned (.int .i64 (i : Int)) ∧ w' = w) := by
    have := rfind_any h hi c
    rw [e3] at this
    exact this
  have HR : Hid (Calls Try.prog 40 #[.int .i64 c] w fun e w' => e = .returned (.bool true) ∧ w' = w) := by
    have := rright_any c w
    rw [hr] at this
    exact this
  have hl : s.R.length ≤ 24 := Nat.le_trans hi.len hi.m24
  obtain ⟨hlt, hc⟩ := at_some ha
  obtain ⟨X, x, u, h⟩ := h
  obtain rfl := h.p
  have h1 : w.cell? ⟨X, 1, none⟩ = some x := by rw [cell_at h.m]; rfl
  obtain ⟨g, cap, rfl, hg1, hg2⟩ := h.rows.form (by omega)
  obtain ⟨⟨y, c2⟩, f2⟩ := own_some h.rows (i * 2 + 1) (by omega)
  have hXg : g ≠ X := fun e => own_ne h.rows h.m (by decide) (by rw [← e]; rfl)
  have HE : Hid (∃ G', RTab (w.setCell ⟨g, i * 2 + 1, none⟩ (.int .i64 v)) base (.pointer (some ⟨X, 0, none⟩)) { s with R := s.R.set i ⟨c, v⟩ } G' ∧ Next G G' w (w.setCell ⟨g, i * 2 + 1, none⟩ (.int .i64 v))) := by
    have hk : Keep [g] w (w.setCell ⟨g, i * 2 + 1, none⟩ (.int .i64 v)) := (Keep.refl _ _).setCell _ _ (by simp)
    have hgG : g ∈ G := by rw [h.F]; simp [Value.ownBlock]
    refine ⟨G, ⟨X, _, u, rfl, by rw [heap_set_other _ _ hXg]; exact h.m, ?_, own_keep h.place hk ?_, h.F, h.bX⟩, hk.mono (fun b hb => by simp at hb; rw [hb]; exact hgG), fun b hb => Or.inl hb⟩
    · show World.ownsRow _ base 39 2 _ (s.R.set i ⟨c, v⟩).length (rowsC (s.R.set i ⟨c, v⟩))
      rw [← rowsC_set s.R i c v hlt hc, List.length_set]
      exact own_set h.rows _ _
    · intro b hb hm
      simp only [List.mem_cons, List.not_mem_nil, or_false] at hm
      subst hm
      rcases h.rows.2 with ⟨e, _⟩ | ⟨g', cap', cur, e, _, hg, _⟩
      · cases e
      · simp at e
        obtain ⟨rfl, rfl⟩ := e
        exact own_ne h.place hg (by decide) hb
  clear h hi ha hc e3
  generalize s.R.length = n at *
  go_enter Try.func38, Try.ntmps38
  go_wp2_with fail
  refine HR.out.mono ?_
  rintro e w' ⟨rfl, rfl⟩
  go_wp2_with fail
  refine HF.out.mono ?_
  rintro e w' ⟨rfl, rfl⟩
  go_wp2
  go_ret
  exact ⟨rfl, HE.out⟩

theorem rput_full {w : World} {base : Nat} {p : Value} {s : Tb} {G : List Nat} (h : RTab w base p s G) (hi : Inv s) (c v : Int) (hr : right c = true) (ha : at? s.R c = none) (hm : s.m ≤ s.R.length) : Calls Try.prog 38 #[p, .int .i64 c, .int .i64 v] w fun e w' => e = .returned (.int .i64 2) ∧ Below w.heap.size w w' := by
  have e3 : findV s c = -1 := by simp [findV, ha]
  have HF : Hid (Calls Try.prog 48 #[p, .int .i64 c] w fun e w' => e = .returned (.int .i64 (-1)) ∧ w' = w) := by
    have := rfind_any h hi c
    rw [e3] at this
    exact this
  have HR : Hid (Calls Try.prog 40 #[.int .i64 c] w fun e w' => e = .returned (.bool true) ∧ w' = w) := by
    have := rright_any c w
    rw [hr] at this
    exact this
  have hl : s.R.length ≤ 24 := Nat.le_trans hi.len hi.m24
  obtain ⟨X, x, u, h⟩ := h
  obtain rfl := h.p
  have h0 : w.cell? ⟨X, 0, none⟩ = some (.int .i64 (s.m : Int)) := by rw [cell_at h.m]; rfl
  have h1 : w.cell? ⟨X, 1, none⟩ = some x := by rw [cell_at h.m]; rfl
  obtain ⟨xa, xc, rfl⟩ := own_slice h.rows
  clear h hi ha e3
  generalize s.R.length = n at *
  have hd : decide ((s.m : Int) ≤ (n : Int)) = true := by simp; omega
  go_enter Try.func38, Try.ntmps38
  go_wp2_with fail
  refine HR.out.mono ?_
  rintro e w' ⟨rfl, rfl⟩
  go_wp2_with fail
  refine HF.out.mono ?_
  rintro e w' ⟨rfl, rfl⟩
  go_wp2
  go_quiet (fail)
  go_wp2
  go_ret
  exact ⟨rfl, below_drawn (Below.refl _ _) _⟩

theorem RTab'.place_set {w : World} {base : Nat} {p : Value} {s : Tb} {G : List Nat} {X g cap : Nat} {x : Value} (h : RTab' w base p s G X x (.slice (some ⟨g, 0, none⟩) (2 ^ s.k) cap)) (q z : Nat) (hq : q < 2 ^ s.k) :
    RTab' (w.setCell ⟨g, q, none⟩ (.int .i64 (z : Int))) base p { s with P := fun y => if y = q then z + 1 else s.P y } G X x (.slice (some ⟨g, 0, none⟩) (2 ^ s.k) cap) ∧ Keep G w (w.setCell ⟨g, q, none⟩ (.int .i64 (z : Int))) := by
  have hXg : g ≠ X := fun e => own_ne h.place h.m (by decide) (by rw [← e]; rfl)
  have hk : Keep [g] w (w.setCell ⟨g, q, none⟩ (.int .i64 (z : Int))) := (Keep.refl _ _).setCell _ _ (by simp)
  have hgG : g ∈ G := by rw [h.F]; simp [Value.ownBlock]
  have ho := own_set h.place q (.int .i64 (z : Int))
  rw [placeC_set s q z hq s.R] at ho
  refine ⟨⟨h.p, by rw [heap_set_other _ _ hXg]; exact h.m, own_keep h.rows hk ?_, ho, h.F, h.bX⟩, hk.mono (fun b hb => by simp at hb; rw [hb]; exact hgG)⟩
  intro b hb hm
  simp only [List.mem_cons, List.not_mem_nil, or_false] at hm
  subst hm
  rcases h.place.2 with ⟨e, _⟩ | ⟨g', cap', cur, e, _, hg, _⟩
  · cases e
  · simp at e
    obtain ⟨rfl, rfl⟩ := e
    exact own_ne h.rows hg (by decide) hb
theorem own_apart {w : World} {base e1 e2 s1 s2 n1 n2 : Nat} {v1 v2 : Value} {xs1 xs2 : List Value} (h1 : w.ownsRow base e1 s1 v1 n1 xs1) (h2 : w.ownsRow base e2 s2 v2 n2 xs2) (he : e1 ≠ e2) : v1.ownBlock = none ∨ v1.ownBlock ≠ v2.ownBlock := by
  rcases h1.2 with ⟨e, _⟩ | ⟨g, cap, cur, e, _, hg, _⟩
  · exact Or.inl (by rw [e]; rfl)
  · right
    intro hh
    rw [e] at hh
    exact own_ne h2 hg he hh.symm
theorem rput_end {wa w3 : World} {base : Nat} {s : Tb} {G : List Nat} {X : Nat} {x x' u : Value} {o : Obj} {c v : Int} (h : RTab' wa base (.pointer (some ⟨X, 0, none⟩)) s G X x u) (hown : w3.ownsRow base 39 2 x' (s.R.length + 1) (rowsC s.R ++ [.int .i64 c, .int .i64 v])) (hg : (wa.alloc o).grownBy w3 x.ownBlock) (hat : x'.ownBlock = x.ownBlock ∨ ∃ g, x'.ownBlock = some g ∧ wa.heap.size ≤ g) :
    ∃ G', RTab (w3.setCell ⟨X, 1, none⟩ x') base (.pointer (some ⟨X, 0, none⟩)) { s with R := s.R ++ [⟨c, v⟩] } G' ∧ Next G G' wa (w3.setCell ⟨X, 1, none⟩ x') := by
  have hX := grown_block h.m (own_ne h.rows h.m (by decide)) hg
  have hk : Keep G wa w3 := ((Keep.refl G wa).alloc o).grown hg (fun b hb => Or.inl (by rw [h.F]; simp [hb]))
  have hp : w3.ownsRow base 3 1 u (2 ^ s.k) (placeC s) := (h.place.alloc o).kept hg (own_apart h.place h.rows (by decide))
  have hks : Keep [X] w3 (w3.setCell ⟨X, 1, none⟩ x') := (Keep.refl _ _).setCell _ _ (by simp)
  refine ⟨_, ⟨X, x', u, rfl, by rw [heap_set hX]; rfl, ?_, own_keep hp hks ?_, rfl, h.bX⟩, hk.trans hks (fun b hb => by simp at hb; rw [hb, h.F]; simp), fun b hb => ?_⟩
  · show World.ownsRow _ base 39 2 x' (s.R ++ [Wr.mk c v]).length (rowsC (s.R ++ [Wr.mk c v]))
    rw [rowsC_snoc, List.length_append]
    exact own_keep hown hks (fun b hb hm => by
      simp only [List.mem_cons, List.not_mem_nil, or_false] at hm
      subst hm
      exact own_ne hown hX (by decide) hb)
  · intro b hb hm
    simp only [List.mem_cons, List.not_mem_nil, or_false] at hm
    subst hm
    exact own_ne hp hX (by decide) hb
  · rw [h.F]
    simp only [List.cons_append, List.mem_cons, List.mem_append, Option.mem_toList] at hb ⊢
    rcases hb with rfl | hb | hb
    · exact Or.inl (Or.inl rfl)
    · rcases hat with e | ⟨g, e, hge⟩
      · rw [e] at hb; exact Or.inl (Or.inr (Or.inl hb))
      · rw [e] at hb; simp at hb; subst hb; exact Or.inr hge
    · exact Or.inl (Or.inr (Or.inr hb))
/-- How far it is from a slot to another. -/
def dist (T N q : Nat) : Nat := if q ≤ T then T - q else T + N - q
theorem dist_lt {T N q : Nat} (hT : T < N) (hq : q < N) (h : q ≠ T) : dist T N ((q + 1) % N) < dist T N q := by
  have : (q + 1) % N = if q + 1 = N then 0 else q + 1 := by
    split
    · next e => rw [e, Nat.mod_self]
    · rw [Nat.mod_eq_of_lt (by omega)]
  rw [this]
  unfold dist
  repeat' split
  all_goals omega

set_option maxRecDepth 10000 in
set_option maxHeartbeats 800000 in
theorem rput_new {w : World} {base : Nat} {p : Value} {s : Tb} {G : List Nat} (h : RTab w base p s G) (hi : Inv s) (hb : base ≤ w.heap.size) (c v : Int) (hr : right c = true) (ha : at? s.R c = none) (hm : s.R.length < s.m) : Calls Try.prog 38 #[p, .int .i64 c, .int .i64 v] w fun e w' => e = .returned (.int .i64 0) ∧ ∃ G', RTab w' base p (put s c v) G' ∧ Next G G' w w' := by
  have e3 : findV s c = -1 := by simp [findV, ha]
  have HF : Hid (Calls Try.prog 48 #[p, .int .i64 c] w fun e w' => e = .returned (.int .i64 (-1)) ∧ w' = w) := by
    have := rfind_any h hi c
    rw [e3] at this
    exact this
  have HR : Hid (Calls Try.prog 40 #[.int .i64 c] w fun e w' => e = .returned (.bool true) ∧ w' = w) := by
    have := rright_any c w
    rw [hr] at this
    exact this
  have HFI : Hid (∀ n, Calls Try.prog 49 #[p, .int .i64 c] (w.drewN n) fun e w' => e = .returned (.int .i64 (fst s.k c : Int)) ∧ w' = w.drewN n) := fun n => rfirst_any (h.keep ((Keep.refl [] _).drewN n) (fun _ _ => by simp)) hi c
  have hl : s.R.length ≤ 24 := Nat.le_trans hi.len hi.m24
  obtain ⟨X, x, u, h⟩ := h
  obtain rfl := h.p
  have HH : Hid (RTab' w base (.pointer (some ⟨X, 0, none⟩)) s G X x u) := h
  have h0 : w.cell? ⟨X, 0, none⟩ = some (.int .i64 (s.m : Int)) := by rw [cell_at h.m]; rfl
  have h1 : w.cell? ⟨X, 1, none⟩ = some x := by rw [cell_at h.m]; rfl
  have h2 : w.cell? ⟨X, 2, none⟩ = some u := by rw [cell_at h.m]; rfl
  obtain ⟨xa, xc, rfl⟩ := own_slice h.rows
  obtain ⟨g, cap, rfl, hg1, hg2⟩ := h.place.form (pw_pos _)
  have HP : Hid (∀ q, q < 2 ^ s.k → w.cell? ⟨g, q, none⟩ = some (.int .i64 ((s.P q : Int) - 1))) := fun q hq => own_cells h.place _ _ (placeC_get s q hq)
  have HA : Hid (at? s.R c = none) := ha
  clear h ha e3
  have hd : decide ((s.m : Int) ≤ (s.R.length : Int)) = false := by simp; omega
  go_enter Try.func38, Try.ntmps38
  go_wp2_with fail
  refine HR.out.mono ?_
  rintro e w' ⟨rfl, rfl⟩
  go_wp2_with fail
  refine HF.out.mono ?_
  rintro e w' ⟨rfl, rfl⟩
  go_wp2
  go_quiet (fail)
  go_wp2_with fail
  refine (HFI.out _).mono ?_
  rintro e w2 ⟨rfl, rfl⟩
  obtain ⟨x2, hx2⟩ : ∃ x2, x2 = w'.drewN nq := ⟨_, rfl⟩
  have HK : Hid (Keep G w' x2) := by rw [hx2]; exact (Keep.refl _ _).drewN _
  have HH2 : Hid (RTab' x2 base (.pointer (some ⟨X, 0, none⟩)) s G X (.slice xa s.R.length xc) (.slice (some ⟨g, 0, none⟩) (2 ^ s.k) cap)) := by rw [hx2]; exact ⟨HH.out.p, HH.out.m, HH.out.rows, HH.out.place, HH.out.F, HH.out.bX⟩
  have hb2 : base ≤ x2.heap.size := Nat.le_trans hb HK.out.size
  rw [← hx2]
  clear hx2 h0 h1 h2 HH hb HR HF HFI hg2
  obtain ⟨d, hdN, hd0, hdb⟩ := hi.free _ (hi.fst c)
  have HB : Hid (∀ e, e < d → ¬ s.P ((fst s.k c + e) % 2 ^ s.k) = 0) := hdb
  have HG : Hid (put s c v = { s with R := s.R ++ [⟨c, v⟩], P := fun y => if y = (fst s.k c + d) % 2 ^ s.k then s.R.length + 1 else s.P y }) := by
    rw [Hid, (put_new v hr (HA.out) hm).1, gap_eq s.P _ (pw_pos _) d _ _ (hi.fst c) (by omega) hd0 hdb]
  have HP2 : Hid (∀ q, q < 2 ^ s.k → x2.cell? ⟨g, q, none⟩ = some (.int .i64 ((s.P q : Int) - 1))) := fun q hq => own_cells HH2.out.place _ _ (placeC_get s q hq)
  have h0 : x2.cell? ⟨X, 0, none⟩ = some (.int .i64 (s.m : Int)) := by rw [cell_at HH2.out.m]; rfl
  have h1 : x2.cell? ⟨X, 1, none⟩ = some (.slice xa s.R.length xc) := by rw [cell_at HH2.out.m]; rfl
  have h2 : x2.cell? ⟨X, 2, none⟩ = some (.slice (some ⟨g, 0, none⟩) (2 ^ s.k) cap) := by rw [cell_at HH2.out.m]; rfl
  have hf1 := frozen_at HH2.out.m 1
  have h64 := hi.n64
  have hff := hi.fst c
  have hXs : X < x2.heap.size := heap_lt HH2.out.m
  have HD0 : Hid (s.P ((fst s.k c + d) % 2 ^ s.k) = 0) := hd0
  have hXg : g ≠ X := fun e => own_ne HH2.out.place HH2.out.m (by decide) (by rw [← e]; rfl)
  have hpp := pw_pos s.k
  clear HP hdb hd0 hi
  have hgs : g < x2.heap.size := World.block_lt_of_cell? _ _ (HP2.out 0 hpp)
  generalize hf : fst s.k c = f at *
  generalize hN : 2 ^ s.k = N at *
  go_wp2
  go_loopw [9] (fun kv wr => ∃ e, e ≤ d ∧ kv = .int .i64 (((f + e) % N : Nat) : Int) ∧ wr = x2) (fun kv _ => dist ((f + d) % N) N (intOf kv).toNat)
  case atStart => exact ⟨0, Nat.zero_le _, by rw [Nat.add_zero, Nat.mod_eq_of_lt hff], rfl⟩
  case round =>
    obtain ⟨e, he, rfl, rfl⟩ := hrel
    obtain ⟨q, hq, hqN⟩ : ∃ q, (f + e) % N = q ∧ q < N := ⟨_, rfl, Nat.mod_lt _ hpp⟩
    have HQ : Hid ((f + e) % N = q) := hq
    have hcp := HP2.out q hqN
    by_cases hlt : e < d
    · have h0' := HB.out e hlt
      rw [HQ.out] at h0'
      obtain ⟨j, hj⟩ : ∃ j, s.P q = j + 1 := ⟨s.P q - 1, by omega⟩
      have HNE : Hid (q ≠ (f + d) % N) := fun e' => h0' (by rw [e']; exact HD0.out)
      rw [hj, show ((j + 1 : Nat) : Int) - 1 = (j : Int) by omega] at hcp
      rw [hq]
      clear hq
      go_wp2
      go_roundw
      case rel => exact ⟨e + 1, by omega, by rw [← mod_step', HQ.out]; go_num, by first | rfl | trivial⟩
      case measure =>
        have := dist_lt (Nat.mod_lt (f + d) hpp) hqN HNE.out
        have e2 : (((q : Int) + 1) % (N : Int)).toNat = (q + 1) % N := by
          have : ((q : Int) + 1) % (N : Int) = (((q + 1) % N : Nat) : Int) := by simp
          rw [this]
          rfl
        simp only [intOf, e2]
        simpa using this
    · obtain rfl : e = d := by omega
      have hz : s.P q = 0 := by rw [← HQ.out]; exact HD0.out
      rw [hz] at hcp
      rw [hq]
      clear hq
      have HS : Hid (RTab' (wr.setCell ⟨g, q, none⟩ (.int .i64 (s.R.length : Int))).drew base (.pointer (some ⟨X, 0, none⟩)) { s with P := fun y => if y = q then s.R.length + 1 else s.P y } G X (.slice xa s.R.length xc) (.slice (some ⟨g, 0, none⟩) N cap) ∧ Keep G wr (wr.setCell ⟨g, q, none⟩ (.int .i64 (s.R.length : Int))).drew) := by
        obtain ⟨k1, k2⟩ := RTab'.place_set (s := s) (by rw [hN]; exact HH2.out) q s.R.length (by rw [hN]; exact hqN)
        rw [hN] at k1
        exact ⟨⟨k1.p, k1.m, k1.rows, k1.place, k1.F, k1.bX⟩, k2.drewN 1⟩
      have f3 : wr.frozen? ⟨g, q, none⟩ = false := (own_some (n := N) (s := 1) (by have := HH2.out.place; rw [hN] at this; exact this) q (by omega)).2
      go_wp2
      go_region
      all_goals
        obtain ⟨x3, hx3⟩ : ∃ x3, x3 = (wr.setCell ⟨g, q, none⟩ (.int .i64 (s.R.length : Int))).drew := ⟨_, rfl⟩
        rw [← hx3] at HS ⊢
        have g1 : x3.cell? ⟨X, 1, none⟩ = some (.slice xa s.R.length xc) := by rw [cell_at HS.out.1.m]; rfl
        have hb3 : base ≤ x3.heap.size := Nat.le_trans hb2 HS.out.2.size
        have hX3 : X < x3.heap.size := heap_lt HS.out.1.m
        clear hx3 h0 h1 h2 hf1 HH2 hcp HP2 f3
        obtain ⟨i0, hi, hz0, hz1, hz2⟩ := info_parts info_wr
        go_wp2_with (at_builtin; refine wpList_append_lies _ rfl _ _ 35 rfl base 39 i0 _ 2 16 Try.underlying35 hi hz0 hz1 hz2 rfl (by decide) _ _ _ rfl (HS.out.1.rows.alloc _) ⟨x3.heap.size, 0, none⟩ 1 1 [.int .i64 c, .int .i64 v] rfl rfl ?c1 ?c2 (by decide) ?c3 ?c4 ?c5 _ rfl ?_)
        case c1 => exact World.news_of_block (cs := #[.int .i64 c, .int .i64 v]) (t := 39) (fr := (0, 0)) (heap_alloc_new x3 _)
        case c2 => simp [Value.oneCell']
        case c3 => show s.R.length + 1 ≤ maxLen; unfold maxLen; omega
        case c4 => show (s.R.length + 1) * 16 ≤ 140737488355328; omega
        case c5 => first | omega | (simp; omega)
        intro gg cap' w3 hown1 hgrow hat _
        have hb4 := grown_block HS.out.1.m (own_ne HS.out.1.rows HS.out.1.m (by decide)) hgrow
        have e2 : w3.cell? ⟨X, 1, none⟩ = some (.slice xa s.R.length xc) := by rw [cell_at hb4]; rfl
        have f2 := frozen_at hb4 1
        have HN : Hid (∃ G', RTab (w3.setCell ⟨X, 1, none⟩ (.slice (some ⟨gg, 0, none⟩) (s.R.length + 1) cap')) base (.pointer (some ⟨X, 0, none⟩)) (put s c v) G' ∧ Next G G' w' (w3.setCell ⟨X, 1, none⟩ (.slice (some ⟨gg, 0, none⟩) (s.R.length + 1) cap'))) := by
          obtain ⟨G', k1, k2⟩ := rput_end HS.out.1 hown1 hgrow (by
            rcases hat with e | e
            · exact Or.inl e.symm
            · exact Or.inr ⟨gg, rfl, by first | omega | (rw [e]; simp)⟩)
          refine ⟨G', ?_, (Next.trans (⟨HK.out.trans HS.out.2 (fun b hb => Or.inl hb), fun b hb => Or.inl hb⟩ : Next G G w' x3) k2)⟩
          rw [HG.out, ← HQ.out] at *
          exact k1
        clear hown1 hgrow hat hb4
        go_wp2
        go_ret
        exact ⟨rfl, HN.out⟩

theorem rput_any {w : World} {base : Nat} {p : Value} {s : Tb} {G : List Nat} (h : RTab w base p s G) (hi : Inv s) (hb : base ≤ w.heap.size) (c v : Int) : Calls Try.prog 38 #[p, .int .i64 c, .int .i64 v] w fun e w' => e = .returned (.int .i64 (putE s c)) ∧ ∃ G', RTab w' base p (put s c v) G' ∧ Next G G' w w' := by
  cases hr : right c with
  | false =>
    rw [(put_wrong v hr).1, (put_wrong v hr).2]
    refine (rput_wrong h hi c v hr).mono ?_
    rintro e w' ⟨rfl, rfl⟩
    exact ⟨rfl, G, h, Next.refl _ _⟩
  | true =>
    cases ha : at? s.R c with
    | some i =>
      rw [(put_old v hr ha).1, (put_old v hr ha).2]
      exact rput_old h hi c v hr i ha
    | none =>
      by_cases hm : s.m ≤ s.R.length
      · rw [(put_full v hr ha hm).1, (put_full v hr ha hm).2]
        refine (rput_full h hi c v hr ha hm).mono ?_
        rintro e w' ⟨rfl, hb'⟩
        exact ⟨rfl, G, h.below hb', Next.of_below hb' G⟩
      · rw [(put_new v hr ha (by omega)).2]
        exact rput_new h hi hb c v hr ha (by omega)
end Go.Proofs.Ytfpnpkpjkcmoaaa
