/- carouselgrow's ring as it lies; end. -/
import Derived.Test.YtfbbcjlbelnfaaaGroA
namespace Go.Proofs.Ytfbbcjlbelnfaaa
open Go.ChangeShapes Go.WideShapes Go.ChangeAt Go.RowKit
attribute [local go_sem ↓] Go.wp_at_zero Go.wp_at_succ

def nilS : Value := .slice none 0 0
/-- A ring, with all the blocks that are its own. -/
structure GAt' (w : World) (base Gk : Nat) (g : GR) (P : List Nat) (v : Value) (us : List Value) : Prop where
  m : w.heap[Gk]? = some (.cells #[.int .i64 (g.size : Int), v, .int .i64 (g.laid : Int), .int .i64 (g.done : Int)] 71 (0, 0))
  own : w.ownsRow base 114 10 v g.l.length (gesC us g.l)
  ulen : us.length = g.l.length
  ws : ∀ i, i < g.l.length → w.ownsRow base 117 2 (us.getD i nilS) (g.l.getD i noGE).w.length (wtC (g.l.getD i noGE).w)
  P : P = Gk :: (v.ownBlock.toList ++ us.flatMap fun u => u.ownBlock.toList)
  lo : base ≤ Gk
  ok : ∀ e ∈ g.l, Sg.Ok e.s ∧ e.b ≤ e.w.length ∧ e.w.length ≤ 4
def GAt (w : World) (base Gk : Nat) (g : GR) (P : List Nat) : Prop := ∃ v us, GAt' w base Gk g P v us
theorem GAt'.okS {w : World} {base Gk : Nat} {g : GR} {P : List Nat} {v : Value} {us : List Value} (h : GAt' w base Gk g P v us) : ∀ e ∈ g.l, Sg.Ok e.s := fun e he => (h.ok e he).1
theorem us_mem {us : List Value} {b : Nat} (h : b ∈ us.flatMap fun u => u.ownBlock.toList) : ∃ i, i < us.length ∧ (us.getD i nilS).ownBlock = some b := by
  obtain ⟨u, hu, hb⟩ := List.mem_flatMap.1 h
  obtain ⟨i, hi, rfl⟩ := List.getElem_of_mem hu
  exact ⟨i, hi, by simpa [List.getD_eq_getElem?_getD, hi] using hb⟩
theorem mem_us {us : List Value} {b i : Nat} (hi : i < us.length) (h : (us.getD i nilS).ownBlock = some b) : b ∈ us.flatMap fun u => u.ownBlock.toList :=
  List.mem_flatMap.2 ⟨us[i], List.getElem_mem hi, by
    have : us.getD i nilS = us[i] := by simp [List.getD_eq_getElem?_getD, hi]
    rw [this] at h; simp [h]⟩
theorem GAt.lt {w : World} {base Gk : Nat} {g : GR} {P : List Nat} (h : GAt w base Gk g P) : ∀ b ∈ P, base ≤ b ∧ b < w.heap.size := by
  obtain ⟨v, us, h⟩ := h
  intro b hb
  rw [h.P] at hb
  simp only [List.mem_cons, List.mem_append, Option.mem_toList] at hb
  rcases hb with rfl | hb | hb
  · exact ⟨h.lo, heap_lt h.m⟩
  · exact own_block h.own b (by simpa using hb)
  · obtain ⟨i, hi, he⟩ := us_mem hb
    exact own_block (h.ws i (by rw [← h.ulen]; exact hi)) b he
theorem GAt.keep {w w' : World} {base Gk : Nat} {g : GR} {P F : List Nat} (h : GAt w base Gk g P) (k : Keep F w w') (hd : ∀ b ∈ P, b ∉ F) : GAt w' base Gk g P := by
  obtain ⟨v, us, h⟩ := h
  have hP := h.P
  refine ⟨v, us, ?_, own_keep h.own k (fun b hb => hd b ?_), h.ulen, fun i hi => own_keep (h.ws i hi) k (fun b hb => hd b ?_), h.P, h.lo, h.ok⟩
  · rw [k.block _ (heap_lt h.m) (hd _ (by rw [hP]; simp))]; exact h.m
  · rw [hP, hb]; simp
  · rw [hP]
    exact List.mem_cons_of_mem _ (List.mem_append_right _ (mem_us (by rw [h.ulen]; exact hi) hb))
theorem GAt.below {w w' : World} {base Gk : Nat} {g : GR} {P : List Nat} (h : GAt w base Gk g P) (k : Below w.heap.size w w') : GAt w' base Gk g P := h.keep (Keep.of_below k []) (fun _ _ => by simp)
/-- A ring beside a memory. -/
structure GM (w : World) (base : Nat) (p : Value) (c : Nat) (L : List Ac) (F : List Nat) (Gk : Nat) (g : GR) (P : List Nat) : Prop where
  mem : MemAt w base p c g.size L F
  gr : GAt w base Gk g P
  apart : ∀ b ∈ F, b ∉ P
theorem GM.below {w w' : World} {base : Nat} {p : Value} {c : Nat} {L : List Ac} {F : List Nat} {Gk : Nat} {g : GR} {P : List Nat} (h : GM w base p c L F Gk g P) (hb : Below w.heap.size w w') : GM w' base p c L F Gk g P :=
  ⟨h.mem.below hb, h.gr.below hb, h.apart⟩
theorem GM.onMem {w w' : World} {base : Nat} {p : Value} {c : Nat} {L L' : List Ac} {F F' : List Nat} {Gk : Nat} {g : GR} {P : List Nat} (h : GM w base p c L F Gk g P) (hm : MemAt w' base p c g.size L' F') (hn : Next F F' w w') : GM w' base p c L' F' Gk g P :=
  ⟨hm, h.gr.keep hn.1 (fun b hb hf => h.apart b hf hb), fun b hb hp => by
    rcases hn.2 b hb with h1 | h1
    · exact h.apart b h1 hp
    · have := (h.gr.lt b hp).2; omega⟩
theorem GM.onGr {w w' : World} {base : Nat} {p : Value} {c : Nat} {L : List Ac} {F : List Nat} {Gk : Nat} {g g' : GR} {P P' : List Nat} (h : GM w base p c L F Gk g P) (hs : g'.size = g.size) (hg : GAt w' base Gk g' P') (hn : Next P P' w w') : GM w' base p c L F Gk g' P' :=
  ⟨by rw [hs]; exact h.mem.keep hn.1 (fun b hb hp => h.apart b hb hp), hg, fun b hb hp => by
    rcases hn.2 b hp with h1 | h1
    · exact h.apart b hb h1
    · have := (h.mem.lt b hb).2; omega⟩
/-- A store into the memory beside the ring. -/
theorem gm_store {w : World} {base : Nat} {p : Value} {c : Nat} {L : List Ac} {F : List Nat} {Gk : Nat} {g : GR} {P : List Nat} (h : GM w base p c L F Gk g P) (hb : base ≤ w.heap.size) (hL : L.length < 3298534883328) (t : Int) (a : Ad) (z : Int) :
    Calls Try.prog 13 #[p, .int .i64 t, .agg #[.int .i64 a.k, .int .i64 a.i, .int .i64 a.j], .int .i64 z] w fun e w' => e = .returned (.int .i64 (if isAd c g.size a then 0 else 1)) ∧ ∃ F', GM w' base p c (storeL c g.size L t a z) F' Gk g P ∧ Next (F ++ P) (F' ++ P) w w' := by
  refine (store_any h.mem hb hL t a z).mono ?_
  rintro e w' ⟨rfl, F', h2, hn⟩
  exact ⟨rfl, F', h.onMem h2 hn, hn.left⟩
/-- What is so of a ring at all times. -/
structure GOk (g : GR) : Prop where
  s1 : 1 ≤ g.size
  s16 : g.size ≤ 16
  da : g.done ≤ g.laid
  an : g.laid ≤ g.l.length
  len : g.l.length ≤ 1073741824
def curE (g : GR) : GE := g.l.getD g.done noGE

/-! ### end -/
def endOk (g : GR) : Bool := decide (g.done < g.laid) && decide ((curE g).b = (curE g).w.length)
def endG (g : GR) : GR := if endOk g then ⟨g.size, g.l, g.laid, g.done + 1⟩ else g
def endL (c : Nat) (g : GR) (L : List Ac) : List Ac := if endOk g then storeL c g.size L (-1) ⟨2, ((g.done : Int) + 1) % (g.size : Int), 0⟩ (2 * ((g.done : Int) + 1) + 1) else L

/-- What of the ring is read. -/
theorem GAt'.cells {w : World} {base Gk : Nat} {g : GR} {P : List Nat} {v : Value} {us : List Value} (h : GAt' w base Gk g P v us) :
    (w.cell? ⟨Gk, 0, none⟩ = some (.int .i64 (g.size : Int)) ∧ w.cell? ⟨Gk, 1, none⟩ = some v ∧ w.cell? ⟨Gk, 2, none⟩ = some (.int .i64 (g.laid : Int)) ∧ w.cell? ⟨Gk, 3, none⟩ = some (.int .i64 (g.done : Int))) ∧ (w.frozen? ⟨Gk, 1, none⟩ = false ∧ w.frozen? ⟨Gk, 2, none⟩ = false ∧ w.frozen? ⟨Gk, 3, none⟩ = false) :=
  ⟨⟨by rw [cell_at h.m]; rfl, by rw [cell_at h.m]; rfl, by rw [cell_at h.m]; rfl, by rw [cell_at h.m]; rfl⟩, frozen_at h.m 1, frozen_at h.m 2, frozen_at h.m 3⟩
theorem GAt'.entry {w : World} {base Gk : Nat} {g : GR} {P : List Nat} {v : Value} {us : List Value} (h : GAt' w base Gk g P v us) (i : Nat) (hi : i < g.l.length) :
    ∃ gb cap, v = .slice (some ⟨gb, 0, none⟩) g.l.length cap ∧ base ≤ gb ∧ gb < w.heap.size ∧ (∀ j, j < 10 → w.cell? ⟨gb, i * 10 + j, none⟩ = (geC (us.getD i nilS) (g.l.getD i noGE))[j]?) ∧ (∀ j, w.frozen? ⟨gb, j, none⟩ = false) := by
  obtain ⟨gb, cap, rfl, hb, hg⟩ := h.own.form (by omega)
  refine ⟨gb, cap, rfl, hb, hg, fun j hj => ?_, fun j => ?_⟩
  · have h1 := gesC_get us g.l h.ulen h.okS i j hi hj
    have hlen : (geC (us.getD i nilS) (g.l.getD i noGE)).length = 10 := geC_len _ _ (h.okS _ (by
      have : g.l.getD i noGE = g.l[i] := by simp [List.getD_eq_getElem?_getD, hi]
      rw [this]; exact List.getElem_mem hi))
    have hget : (geC (us.getD i nilS) (g.l.getD i noGE))[j]? = some ((geC (us.getD i nilS) (g.l.getD i noGE))[j]'(by omega)) := List.getElem?_eq_getElem _
    rw [show Value.slice none 0 0 = nilS from rfl, hget] at h1
    rw [hget]
    exact own_cells h.own _ _ h1
  · rcases h.own.2 with ⟨e, _⟩ | ⟨g', cap', cur, e, _, hg', _⟩
    · cases e
    · simp at e
      rw [e.1]
      exact frozen_at hg' j
theorem sliceV (u : Value) (w : World) (base n : Nat) (xs : List Value) (e s : Nat) (h : w.ownsRow base e s u n xs) : ∃ a cap, u = .slice a n cap := own_slice h

theorem end_set {w : World} {base Gk : Nat} {g : GR} {P : List Nat} {v : Value} {us : List Value} (h : GAt' w base Gk g P v us) (d : Nat) :
    GAt' (w.setCell ⟨Gk, 3, none⟩ (.int .i64 (d : Int))) base Gk ⟨g.size, g.l, g.laid, d⟩ P v us ∧ Next P P w (w.setCell ⟨Gk, 3, none⟩ (.int .i64 (d : Int))) := by
  have k : Keep [Gk] w (w.setCell ⟨Gk, 3, none⟩ (.int .i64 (d : Int))) := (Keep.refl _ _).setCell _ _ (Or.inl (by simp))
  have hm : (w.setCell ⟨Gk, 3, none⟩ (.int .i64 (d : Int))).heap[Gk]? = some (.cells #[.int .i64 (g.size : Int), v, .int .i64 (g.laid : Int), .int .i64 (d : Int)] 71 (0, 0)) := by rw [heap_set h.m]; rfl
  refine ⟨⟨hm, own_keep h.own k (fun b hb e => ?_), h.ulen, fun i hi => own_keep (h.ws i hi) k (fun b hb e => ?_), h.P, h.lo, h.ok⟩, k.mono (fun b hb => by simp at hb; subst hb; rw [h.P]; simp), fun b hb => Or.inl hb⟩
  · simp at e; subst e; exact own_ne h.own h.m (by decide) hb
  · simp at e; subst e; exact own_ne (h.ws i hi) h.m (by decide) hb

theorem GAt'_drawn {w : World} {base Gk : Nat} {g : GR} {P : List Nat} {v : Value} {us : List Value} (h : GAt' w base Gk g P v us) (n : Nat) : GAt' (w.drewN n) base Gk g P v us :=
  ⟨h.m, own_keep h.own ((Keep.refl [] _).drewN n) (fun _ _ => by simp), h.ulen, fun i hi => own_keep (h.ws i hi) ((Keep.refl [] _).drewN n) (fun _ _ => by simp), h.P, h.lo, h.ok⟩
set_option maxRecDepth 10000 in
set_option maxHeartbeats 3200000 in
theorem gend_any {w : World} {base : Nat} {p : Value} {c : Nat} {L : List Ac} {F : List Nat} {Gk : Nat} {g : GR} {P : List Nat} (h : GM w base p c L F Gk g P) (hb : base ≤ w.heap.size) (hL : L.length < 3298534883328) (hk : GOk g) :
    Calls Try.prog 44 #[.pointer (some ⟨Gk, 0, none⟩), p] w fun e w' => e = .returned (.tuple #[]) ∧ ∃ F' P', GM w' base p c (endL c g L) F' Gk (endG g) P' ∧ Next (F ++ P) (F' ++ P') w w' := by
  obtain ⟨v, us, hg⟩ := h.gr
  obtain ⟨⟨k0, k1, k2, k3⟩, z1, z2, z3⟩ := hg.cells
  have hGk : Gk < w.heap.size := heap_lt hg.m
  have HH : Hid (GM w base p c L F Gk g P) := h
  have HG : Hid (GAt' w base Gk g P v us) := hg
  have hs1 := hk.s1
  have hs16 := hk.s16
  have hda := hk.da
  have han := hk.an
  have hlen := hk.len
  obtain ⟨M, rfl⟩ := h.mem.ptr
  clear h
  by_cases hd : g.done < g.laid
  · have d1 : decide ((g.done : Int) < (g.laid : Int)) = true := by simp; omega
    obtain ⟨gb, cap, rfl, hgb, hgbl, hcell, hfr⟩ := hg.entry g.done (by omega)
    have e9 : w.cell? ⟨gb, g.done * 10 + 9, none⟩ = some (.int .i64 ((curE g).b : Int)) := by
      rw [hcell 9 (by decide)]
      have hle : (Sg.sc (curE g).s).toList.length = 8 := by
        have : Sg.Ok (curE g).s := hg.okS _ (by unfold curE; rw [List.getD_eq_getElem?_getD, List.getElem?_eq_getElem (by omega)]; exact List.getElem_mem _)
        simp [Sg.sc_size, this.1]
      show (geC _ (curE g))[9]? = _
      unfold geC
      rw [List.getElem?_cons_succ, List.getElem?_append_right (by omega), hle]
      rfl
    have e0 : w.cell? ⟨gb, g.done * 10, none⟩ = some (us.getD g.done nilS) := by
      have := hcell 0 (by decide)
      simpa [geC] using this
    obtain ⟨ua, ucap, hu⟩ := own_slice (hg.ws g.done (by omega))
    rw [hu] at e0
    change w.cell? ⟨gb, g.done * 10, none⟩ = some (.slice ua (curE g).w.length ucap) at e0
    clear hcell hfr hu hg
    by_cases hbw : (curE g).b = (curE g).w.length
    · have hok : endOk g = true := by simp [endOk, hd, hbw]
      unfold endL endG
      rw [if_pos hok, if_pos hok]
      have hx1 : (g.done : Int) < (g.l.length : Int) := by omega
      rw [hbw] at e9
      generalize (curE g).w.length = nw at *
      generalize g.l.length = nl at *
      go_enter Try.func44, Try.ntmps44
      go_wp2
      go_quiet (fail)
      have htm : ((g.done : Int) + 1).tmod (g.size : Int) = ((g.done : Int) + 1) % (g.size : Int) := Int.tmod_eq_emod_of_nonneg (by omega)
      have hz : ¬ (g.size : Int) = 0 := by omega
      have w1 : IntKind.i64.wrap (2 * ((g.done : Int) + 1)) = 2 * ((g.done : Int) + 1) := by rw [IntKind.wrap_i64]; omega
      have w2 : IntKind.i64.wrap (2 * ((g.done : Int) + 1) + 1) = 2 * ((g.done : Int) + 1) + 1 := by rw [IntKind.wrap_i64]; omega
      go_wp2_with fail
      obtain ⟨hg2, hn2⟩ := end_set (w := w.drewN nq) (GAt'_drawn HG.out nq) (g.done + 1)
      rw [show ((g.done + 1 : Nat) : Int) = (g.done : Int) + 1 by omega] at hg2 hn2
      have HM2 : Hid (GM ((w.drewN nq).setCell ⟨Gk, 3, none⟩ (.int .i64 ((g.done : Int) + 1))) base (.pointer (some ⟨M, 0, none⟩)) c L F Gk ⟨g.size, g.l, g.laid, g.done + 1⟩ P) := (HH.out.below (below_drawn (Below.refl _ _) nq)).onGr rfl ⟨_, _, hg2⟩ hn2
      have HN2 : Hid (Next (F ++ P) (F ++ P) w ((w.drewN nq).setCell ⟨Gk, 3, none⟩ (.int .i64 ((g.done : Int) + 1)))) := (Next.of_below (below_drawn (Below.refl _ _) nq) _).trans hn2.right
      obtain ⟨⟨q0, q1, q2, q3⟩, _⟩ := hg2.cells
      have hb2 : base ≤ ((w.drewN nq).setCell ⟨Gk, 3, none⟩ (.int .i64 ((g.done : Int) + 1))).heap.size := Nat.le_trans hb HN2.out.1.size
      simp only at q0 q2 q3
      rw [show ((g.done + 1 : Nat) : Int) = (g.done : Int) + 1 by omega] at q3
      clear hg2 hn2 k0 k1 k2 k3 z1 z2 z3 e0 e9
      generalize (w.drewN nq).setCell ⟨Gk, 3, none⟩ (.int .i64 ((g.done : Int) + 1)) = y2 at *
      have HST : Hid (Calls Try.prog 13 #[.pointer (some ⟨M, 0, none⟩), .int .i64 (-1), .agg #[.int .i64 2, .int .i64 (((g.done : Int) + 1) % (g.size : Int)), .int .i64 0], .int .i64 (2 * ((g.done : Int) + 1) + 1)] y2.drew fun e w' => e = .returned (.int .i64 (if isAd c g.size ⟨2, ((g.done : Int) + 1) % (g.size : Int), 0⟩ then 0 else 1)) ∧ ∃ F', GM w' base (.pointer (some ⟨M, 0, none⟩)) c (storeL c g.size L (-1) ⟨2, ((g.done : Int) + 1) % (g.size : Int), 0⟩ (2 * ((g.done : Int) + 1) + 1)) F' Gk ⟨g.size, g.l, g.laid, g.done + 1⟩ P ∧ Next (F ++ P) (F' ++ P) y2.drew w') := gm_store (HM2.out.below (below_drawn (Below.refl _ _) 1)) hb2 hL (-1) ⟨2, ((g.done : Int) + 1) % (g.size : Int), 0⟩ (2 * ((g.done : Int) + 1) + 1)
      generalize (if isAd c g.size ⟨2, ((g.done : Int) + 1) % (g.size : Int), 0⟩ = true then (0 : Int) else 1) = ea at *
      go_region_with ((go_at_call 13; refine HST.out.mono ?_; rintro e y3 ⟨rfl, F3, hm3, hn3⟩))
      all_goals
        have HE : Hid (∃ F' P', GM y3 base (.pointer (some ⟨M, 0, none⟩)) c (storeL c g.size L (-1) ⟨2, ((g.done : Int) + 1) % (g.size : Int), 0⟩ (2 * ((g.done : Int) + 1) + 1)) F' Gk ⟨g.size, g.l, g.laid, g.done + 1⟩ P' ∧ Next (F ++ P) (F' ++ P') w y3) := ⟨F3, P, hm3, HN2.out.trans ((Next.of_below (below_drawn (Below.refl _ _) 1) _).trans hn3)⟩
        clear hm3 hn3
        go_wp2
        refine bodyPost_end (results_none rfl _ _ _) rfl ?_
        exact ⟨rfl, HE.out⟩
    · have hok : endOk g = false := by simp [endOk, hbw]
      unfold endL endG
      rw [if_neg (by simp [hok]), if_neg (by simp [hok])]
      have hx1 : (g.done : Int) < (g.l.length : Int) := by omega
      have hne : (((curE g).b : Int) == ((curE g).w.length : Int)) = false := by simp; omega
      generalize (curE g).w.length = nw at *
      generalize g.l.length = nl at *
      go_enter Try.func44, Try.ntmps44
      go_wp2
      go_quiet (fail)
      go_wp2
      refine bodyPost_end (results_none rfl _ _ _) rfl ?_
      exact ⟨rfl, F, P, HH.out.below (below_drawn (Below.refl _ _) _), Next.of_below (below_drawn (Below.refl _ _) _) _⟩
  · have d1 : decide ((g.done : Int) < (g.laid : Int)) = false := by simp; omega
    have hok : endOk g = false := by simp [endOk, hd]
    unfold endL endG
    rw [if_neg (by simp [hok]), if_neg (by simp [hok])]
    go_enter Try.func44, Try.ntmps44
    go_wp2
    go_quiet (fail)
    go_wp2
    refine bodyPost_end (results_none rfl _ _ _) rfl ?_
    exact ⟨rfl, F, P, HH.out.below (below_drawn (Below.refl _ _) _), Next.of_below (below_drawn (Below.refl _ _) _) _⟩
end Go.Proofs.Ytfbbcjlbelnfaaa
