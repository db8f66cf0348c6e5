/- carouselgrow: an entry is published. -/
import Derived.Test.YtfbbcjlbelnfaaaGroB
import Derived.BigRegion
namespace Go.Proofs.Ytfbbcjlbelnfaaa
open Go.ChangeShapes Go.WideShapes Go.ChangeAt Go.RowKit
attribute [local go_sem ↓] Go.wp_at_zero Go.wp_at_succ

def pubOk (g : GR) : Bool := decide ((g.l.length : Int) - (g.done : Int) < (g.size : Int))
def newE (S : List Wt) (c : Nat) : GE := ⟨fitW S c, sigW (fitW S c), 0⟩
def pubS (c : Nat) (S : List Wt) (s : GR × List Ac) : GR × List Ac := if pubOk s.1 then (⟨s.1.size, s.1.l ++ [newE S c], s.1.laid, s.1.done⟩, storeL c s.1.size s.2 (-1) ⟨1, 0, 0⟩ ((s.1.l.length : Int) + 1)) else s
def sgA (f : Nat → Nat) : Array Value := #[.int .u64 ((f 0 : Nat) : Int), .int .u64 ((f 1 : Nat) : Int), .int .u64 ((f 2 : Nat) : Int), .int .u64 ((f 3 : Nat) : Int), .int .u64 ((f 4 : Nat) : Int), .int .u64 ((f 5 : Nat) : Int), .int .u64 ((f 6 : Nat) : Int), .int .u64 ((f 7 : Nat) : Int)]
def enA (u : Value) (f : Nat → Nat) (b : Nat) : Array Value := #[u, .int .u64 ((f 0 : Nat) : Int), .int .u64 ((f 1 : Nat) : Int), .int .u64 ((f 2 : Nat) : Int), .int .u64 ((f 3 : Nat) : Int), .int .u64 ((f 4 : Nat) : Int), .int .u64 ((f 5 : Nat) : Int), .int .u64 ((f 6 : Nat) : Int), .int .u64 ((f 7 : Nat) : Int), .int .i64 (b : Int)]
theorem sc_eq (s : List Nat) (h : Sg.Ok s) : Sg.sc s = sgA (fun j => s.getD j 0) := by
  obtain ⟨h1, _⟩ := h
  match s, h1 with
  | [_, _, _, _, _, _, _, _], _ => rfl
theorem geC_eq (u : Value) (e : GE) (h : Sg.Ok e.s) : geC u e = (enA u (fun j => e.s.getD j 0) e.b).toList := by
  unfold geC
  rw [sc_eq e.s h]
  rfl
theorem sigW_ok (W : List Wt) : Sg.Ok (sigW W) := by
  unfold sigW
  have : ∀ (l : List Wt) (s : List Nat), Sg.Ok s → Sg.Ok (l.foldl (fun s x => Sg.put s (Sg.sigN x.c)) s) := fun l => by
    induction l with
    | nil => exact fun s h => h
    | cons x l ih => exact fun s h => ih _ (Sg.ok_put h _ (Sg.sigN_lt _))
  exact this W _ Sg.ok_nought
theorem sigW_snoc (W : List Wt) (q : Nat) (hq : q < W.length) : sigW (W.take (q + 1)) = Sg.put (sigW (W.take q)) (Sg.sigN (W.getD q noWt).c) := by
  unfold sigW
  rw [List.take_add_one, List.foldl_append]
  simp [hq]
theorem info_ent : (Try.prog.info? 114).map (fun i => (i.zero, i.size, i.bytes)) = some (some (.agg #[.slice none 0 0, .int .u64 0, .int .u64 0, .int .u64 0, .int .u64 0, .int .u64 0, .int .u64 0, .int .u64 0, .int .u64 0, .int .i64 0]), 10, 96) := by kernel_rfl

/-- A signature is laid into an entry. -/
def laid8 (w : World) (B : Nat) (f : Nat → Nat) : World := (((((((w.setCell ⟨B, 1, none⟩ (.int .u64 ((f 0 : Nat) : Int))).setCell ⟨B, 2, none⟩ (.int .u64 ((f 1 : Nat) : Int))).setCell ⟨B, 3, none⟩ (.int .u64 ((f 2 : Nat) : Int))).setCell ⟨B, 4, none⟩ (.int .u64 ((f 3 : Nat) : Int))).setCell ⟨B, 5, none⟩ (.int .u64 ((f 4 : Nat) : Int))).setCell ⟨B, 6, none⟩ (.int .u64 ((f 5 : Nat) : Int))).setCell ⟨B, 7, none⟩ (.int .u64 ((f 6 : Nat) : Int))).setCell ⟨B, 8, none⟩ (.int .u64 ((f 7 : Nat) : Int))
theorem en_set {w : World} {B : Nat} {u : Value} {f : Nat → Nat} {b : Nat} (h : w.heap[B]? = some (.cells (enA u f b) 114 (0, 0))) (f' : Nat → Nat) : (laid8 w B f').heap[B]? = some (.cells (enA u f' b) 114 (0, 0)) := by
  have h1 := heap_set h 1 (.int .u64 ((f' 0 : Nat) : Int))
  have h2 := heap_set h1 2 (.int .u64 ((f' 1 : Nat) : Int))
  have h3 := heap_set h2 3 (.int .u64 ((f' 2 : Nat) : Int))
  have h4 := heap_set h3 4 (.int .u64 ((f' 3 : Nat) : Int))
  have h5 := heap_set h4 5 (.int .u64 ((f' 4 : Nat) : Int))
  have h6 := heap_set h5 6 (.int .u64 ((f' 5 : Nat) : Int))
  have h7 := heap_set h6 7 (.int .u64 ((f' 6 : Nat) : Int))
  have h8 := heap_set h7 8 (.int .u64 ((f' 7 : Nat) : Int))
  unfold laid8
  rw [h8]
  simp [enA]
theorem keep8 {w0 w : World} {B : Nat} (k : Keep [B] w0 w) (f : Nat → Nat) : Keep [B] w0 (laid8 w B f) :=
  keep1 (keep1 (keep1 (keep1 (keep1 (keep1 (keep1 (keep1 k _ _) _ _) _ _) _ _) _ _) _ _) _ _) _ _
theorem en_cells {w : World} {B : Nat} {u : Value} {f : Nat → Nat} {b : Nat} (h : w.heap[B]? = some (.cells (enA u f b) 114 (0, 0))) :
    (w.cell? ⟨B, 0, none⟩ = some u ∧ w.cell? ⟨B, 1, none⟩ = some (.int .u64 ((f 0 : Nat) : Int)) ∧ w.cell? ⟨B, 2, none⟩ = some (.int .u64 ((f 1 : Nat) : Int)) ∧ w.cell? ⟨B, 3, none⟩ = some (.int .u64 ((f 2 : Nat) : Int)) ∧ w.cell? ⟨B, 4, none⟩ = some (.int .u64 ((f 3 : Nat) : Int)) ∧ w.cell? ⟨B, 5, none⟩ = some (.int .u64 ((f 4 : Nat) : Int)) ∧ w.cell? ⟨B, 6, none⟩ = some (.int .u64 ((f 5 : Nat) : Int)) ∧ w.cell? ⟨B, 7, none⟩ = some (.int .u64 ((f 6 : Nat) : Int)) ∧ w.cell? ⟨B, 8, none⟩ = some (.int .u64 ((f 7 : Nat) : Int)) ∧ w.cell? ⟨B, 9, none⟩ = some (.int .i64 (b : Int))) ∧
    (w.frozen? ⟨B, 1, none⟩ = false ∧ w.frozen? ⟨B, 2, none⟩ = false ∧ w.frozen? ⟨B, 3, none⟩ = false ∧ w.frozen? ⟨B, 4, none⟩ = false ∧ w.frozen? ⟨B, 5, none⟩ = false ∧ w.frozen? ⟨B, 6, none⟩ = false ∧ w.frozen? ⟨B, 7, none⟩ = false ∧ w.frozen? ⟨B, 8, none⟩ = false) :=
  ⟨⟨by rw [cell_at h]; rfl, by rw [cell_at h]; rfl, by rw [cell_at h]; rfl, by rw [cell_at h]; rfl, by rw [cell_at h]; rfl, by rw [cell_at h]; rfl, by rw [cell_at h]; rfl, by rw [cell_at h]; rfl, by rw [cell_at h]; rfl, by rw [cell_at h]; rfl⟩, frozen_at h 1, frozen_at h 2, frozen_at h 3, frozen_at h 4, frozen_at h 5, frozen_at h 6, frozen_at h 7, frozen_at h 8⟩

theorem own_bt {w : World} {base n s : Nat} {e : TypeId} {v : Value} {xs : List Value} {b : Nat} (h : w.ownsRow base e s v n xs) (hb : v.ownBlock = some b) : ∃ cur, w.heap[b]? = some (.cells cur e (0, 0)) := by
  rcases h.2 with ⟨rfl, _⟩ | ⟨g, cap, cur, rfl, _, hg, _⟩
  · simp [Value.ownBlock] at hb
  · simp [Value.ownBlock] at hb
    subst hb
    exact ⟨cur, hg⟩
theorem getD_app_old {α : Type} (l : List α) (x d : α) (i : Nat) (h : i < l.length) : (l ++ [x]).getD i d = l.getD i d := by
  simp only [List.getD_eq_getElem?_getD, List.getElem?_append_left h]
theorem getD_app_new {α : Type} (l : List α) (x d : α) (i : Nat) (h : i = l.length) : (l ++ [x]).getD i d = x := by
  subst h
  simp
theorem pub_end {wr X w6 : World} {base Gk B0 gg cap' nl : Nat} {p v u : Value} {c : Nat} {L : List Ac} {F P : List Nat} {g : GR} {us : List Value} {e : GE} (hm : GM wr base p c L F Gk g P) (hg : GAt' wr base Gk g P v us) (hnl : g.l.length = nl) (hB : B0 ≤ wr.heap.size) (hF : ∀ b ∈ F, b < B0)
    (hou : wr.ownsRow base 117 2 u e.w.length (wtC e.w)) (hub : ∀ b, u.ownBlock = some b → B0 ≤ b) (he : Sg.Ok e.s ∧ e.b ≤ e.w.length ∧ e.w.length ≤ 4) (kX : Keep [] wr X)
    (hown1 : w6.ownsRow base 114 10 (.slice (some ⟨gg, 0, none⟩) (nl + 1) cap') (nl + 1) (gesC us g.l ++ geC u e)) (hgrow : X.grownBy w6 v.ownBlock) (hat : v.ownBlock = some gg ∨ wr.heap.size ≤ gg) :
    ∃ P', GM (w6.setCell ⟨Gk, 1, none⟩ (.slice (some ⟨gg, 0, none⟩) (nl + 1) cap')) base p c L F Gk ⟨g.size, g.l ++ [e], g.laid, g.done⟩ P' ∧ (∀ b ∈ P', b ∈ P ∨ B0 ≤ b) ∧ Keep P wr (w6.setCell ⟨Gk, 1, none⟩ (.slice (some ⟨gg, 0, none⟩) (nl + 1) cap')) := by
  have k0 : Keep v.ownBlock.toList wr w6 := (kX.mono (fun b hb => by simp at hb)).grown hgrow (fun b hb => Or.inl (by rw [hb]; simp))
  have hm1 : w6.heap[Gk]? = some (.cells #[.int .i64 (g.size : Int), v, .int .i64 (g.laid : Int), .int .i64 (g.done : Int)] 71 (0, 0)) := by
    rw [k0.block _ (heap_lt hg.m) (fun hm => own_ne hg.own hg.m (by decide) (by simpa using hm))]; exact hg.m
  have hg1 : (Value.slice (some ⟨gg, 0, none⟩) (nl + 1) cap').ownBlock ≠ some Gk := own_ne hown1 hm1 (by decide)
  have kset : Keep [Gk] w6 (w6.setCell ⟨Gk, 1, none⟩ (.slice (some ⟨gg, 0, none⟩) (nl + 1) cap')) := (Keep.refl _ _).setCell _ _ (Or.inl (by simp))
  have K : Keep (Gk :: v.ownBlock.toList) wr (w6.setCell ⟨Gk, 1, none⟩ (.slice (some ⟨gg, 0, none⟩) (nl + 1) cap')) := (k0.mono (fun b hb => by simp at hb ⊢; exact Or.inr hb)).trans kset (fun b hb => by simp at hb; subst hb; exact Or.inl (by simp))
  have hsub : ∀ b ∈ Gk :: v.ownBlock.toList, b ∈ P := fun b hb => by
    rw [hg.P]
    rcases List.mem_cons.1 hb with rfl | hb
    · simp
    · exact List.mem_cons_of_mem _ (List.mem_append_left _ hb)
  have hwk : ∀ (u' : Value) (W : List Wt), wr.ownsRow base 117 2 u' W.length (wtC W) → (w6.setCell ⟨Gk, 1, none⟩ (.slice (some ⟨gg, 0, none⟩) (nl + 1) cap')).ownsRow base 117 2 u' W.length (wtC W) := fun u' W hw => own_keep hw K (fun b hb hm => by
    rcases List.mem_cons.1 hm with rfl | hm
    · exact own_ne hw hg.m (by decide) hb
    · have hvb : v.ownBlock = some b := by simpa using hm
      obtain ⟨cur, hcur⟩ := own_bt hg.own hvb
      exact own_ne hw hcur (by decide) hb)
  have hP' : ∀ b ∈ Gk :: ([gg] ++ (us ++ [u]).flatMap fun u => u.ownBlock.toList), b ∈ P ∨ B0 ≤ b := fun b hb => by
    simp only [List.mem_cons, List.mem_append, List.flatMap_append, List.not_mem_nil, or_false] at hb
    rcases hb with rfl | hb | hb | hb
    · exact Or.inl (hsub _ (by simp))
    · subst hb
      rcases hat with h1 | h1
      · exact Or.inl (hsub _ (by simp [h1]))
      · exact Or.inr (by omega)
    · refine Or.inl ?_
      rw [hg.P]
      exact List.mem_cons_of_mem _ (List.mem_append_right _ hb)
    · have : u.ownBlock = some b := by simpa using hb
      exact Or.inr (hub b this)
  refine ⟨Gk :: ([gg] ++ (us ++ [u]).flatMap fun u => u.ownBlock.toList), ⟨hm.mem.keep K (fun b hb h2 => hm.apart b hb (hsub b h2)), ⟨.slice (some ⟨gg, 0, none⟩) (nl + 1) cap', us ++ [u], ?_, ?_, by simp [hg.ulen], fun i hi => ?_, rfl, hg.lo, fun x hx => ?_⟩, fun b hb hp => ?_⟩, hP', K.mono hsub⟩
  · rw [heap_set hm1]; rfl
  · simp only [List.length_append, List.length_cons, List.length_nil]
    rw [gesC_app _ _ _ _ hg.ulen, hnl]
    exact own_keep hown1 kset (fun b hb hm => by simp at hm; subst hm; exact hg1 hb)
  · simp only [List.length_append, List.length_cons, List.length_nil] at hi
    by_cases h1 : i < g.l.length
    · rw [show (us ++ [u]).getD i nilS = us.getD i nilS from getD_app_old _ _ _ _ (by rw [hg.ulen]; exact h1), show (g.l ++ [e]).getD i noGE = g.l.getD i noGE from getD_app_old _ _ _ _ h1]
      exact hwk _ _ (hg.ws i h1)
    · rw [show (us ++ [u]).getD i nilS = u from getD_app_new _ _ _ _ (by rw [hg.ulen]; omega), show (g.l ++ [e]).getD i noGE = e from getD_app_new _ _ _ _ (by omega)]
      exact hwk _ _ hou
  · rcases List.mem_append.1 hx with h1 | h1
    · exact hg.ok x h1
    · simp at h1; subst h1; exact he
  · rcases hP' b hp with h1 | h1
    · exact hm.apart b hb h1
    · have := hF b hb; omega
theorem newE_ok (S : List Wt) (c : Nat) : Sg.Ok (newE S c).s ∧ (newE S c).b ≤ (newE S c).w.length ∧ (newE S c).w.length ≤ 4 := ⟨sigW_ok _, Nat.zero_le _, fitW_len _ _⟩

set_option maxRecDepth 10000 in
set_option maxHeartbeats 6400000 in
theorem act_pub {w : World} {base : Nat} {M : Nat} {c : Nat} {L : List Ac} {F : List Nat} {Gk : Nat} {g : GR} {P : List Nat} (h : GM w base (.pointer (some ⟨M, 0, none⟩)) c L F Gk g P) (hb : base ≤ w.heap.size) (hL : L.length < 3298534882000) (hk : GOk g) (hc1 : 1 ≤ c) (hc2 : c ≤ 1024) (kind : Int) (va : Value) (S : List Wt) (hS : WLst w va S) (hkd : kind % 5 = 0) :
    Calls Try.prog 21 #[.pointer (some ⟨Gk, 0, none⟩), .pointer (some ⟨M, 0, none⟩), .int .i64 kind, va] w fun e w' => e = .returned (.tuple #[]) ∧ ∃ F' P', GM w' base (.pointer (some ⟨M, 0, none⟩)) c (pubS c S (g, L)).2 F' Gk (pubS c S (g, L)).1 P' ∧ Next (F ++ P) (F' ++ P') w w' := by
  have HZ : Hid (Calls Try.prog 39 #[.pointer (some ⟨M, 0, none⟩)] w fun e w' => e = .returned (.tuple #[.int .i64 (c : Int), .int .i64 (g.size : Int)]) ∧ Below w.heap.size w w') := sizes_any h.mem
  have HP : Hid (∀ w, Calls Try.prog 20 #[.int .i64 kind, .int .i64 5] w fun e w' => e = .returned (.int .i64 0) ∧ w' = w) := fun w => by rw [← hkd]; exact gpick_any kind 5 (by decide) (by decide) w
  have HFT : Hid (∀ w', Below w.heap.size w w' → Calls Try.prog 40 #[va, .int .i64 (c : Int)] w' fun e w'' => ∃ u, e = .returned u ∧ w''.ownsRow w'.heap.size 117 2 u (fitW S c).length (wtC (fitW S c)) ∧ Below w'.heap.size w' w'') := fun w' hb' => fit_any (hS.later hb' rfl) c hc1 hc2
  have HH : Hid (GM w base (.pointer (some ⟨M, 0, none⟩)) c L F Gk g P) := h
  obtain ⟨v, us, hg⟩ := h.gr
  have hda := hk.da
  have han := hk.an
  have hlen := hk.len
  have hs16 := hk.s16
  obtain ⟨ra, rcap, rfl⟩ := own_slice hg.own
  obtain ⟨⟨k0, k1, k2, k3⟩, z1, z2, z3⟩ := hg.cells
  have hGk : Gk < w.heap.size := heap_lt hg.m
  obtain ⟨sa, scap, rfl, _⟩ := id hS
  clear h hg hS
  have hcp : decide ((c : Int) > 0) = true := by simp; omega
  by_cases hp : (g.l.length : Int) - (g.done : Int) < (g.size : Int)
  · have d1 : decide ((g.l.length : Int) - (g.done : Int) < (g.size : Int)) = true := by simpa using hp
    have hok : pubOk g = true := by simpa [pubOk] using hp
    unfold pubS
    simp only
    rw [if_pos hok]
    go_enter Try.func21, Try.ntmps21
    go_wp2_with fail
    refine HZ.out.mono ?_
    rintro e y1 ⟨rfl, hb1⟩
    have HB1 : Hid (Below w.heap.size w y1) := hb1
    replace k0 := cell_later hb1 hGk k0
    replace k1 := cell_later hb1 hGk k1
    replace k3 := cell_later hb1 hGk k3
    clear hb1 k2 z1 z2 z3
    go_wp2_with fail
    refine (HP.out _).mono ?_
    rintro e y2 ⟨rfl, rfl⟩
    go_wp2_with fail
    go_quiet (fail)
    go_wp2_with fail
    refine (HFT.out _ (below_drawn HB1.out nq)).mono ?_
    rintro e y3 ⟨u, rfl, hou, hb3⟩
    have HB3 : Hid (Below w.heap.size w y3) := below_then (below_drawn HB1.out nq) hb3
    have hy3 : w.heap.size ≤ y3.heap.size := HB3.out.size
    have HOU : Hid (y3.ownsRow base 117 2 u (fitW S c).length (wtC (fitW S c))) := own_base hou (Nat.le_trans hb (below_drawn HB1.out nq).size)
    have HM3 : Hid (GM y3 base (.pointer (some ⟨M, 0, none⟩)) c L F Gk g P) := HH.out.below HB3.out
    obtain ⟨ua, ucap, rfl⟩ := own_slice hou
    have hW4 := fitW_len S c
    have HCW : Hid (∀ q, q < (fitW S c).length → ∃ ub, ua = some ⟨ub, 0, none⟩ ∧ ub < y3.heap.size ∧ y3.cell? ⟨ub, q * 2, none⟩ = some (.int .i64 ((fitW S c).getD q noWt).c)) := fun q hq => by
      obtain ⟨ub, cap', hf, _, hl⟩ := hou.form (by omega)
      obtain ⟨rfl, _⟩ : ua = some ⟨ub, 0, none⟩ ∧ ucap = cap' := by simpa using hf
      exact ⟨ub, rfl, hl, own_cells hou _ _ (wtC_get _ q hq).1⟩
    have HWT : Hid (∀ q, q < (fitW S c).length → ∀ f : Nat → Nat, (∀ j, (sigW ((fitW S c).take q)).getD j 0 = f j) → ∃ f' : Nat → Nat, (∀ j, (sigW ((fitW S c).take (q + 1))).getD j 0 = f' j) ∧ ∀ w, Calls Try.prog 41 #[.agg #[.int .u64 ((f 0 : Nat) : Int), .int .u64 ((f 1 : Nat) : Int), .int .u64 ((f 2 : Nat) : Int), .int .u64 ((f 3 : Nat) : Int), .int .u64 ((f 4 : Nat) : Int), .int .u64 ((f 5 : Nat) : Int), .int .u64 ((f 6 : Nat) : Int), .int .u64 ((f 7 : Nat) : Int)], .int .i64 ((fitW S c).getD q noWt).c] w fun e w' => e = .returned (.agg #[.int .u64 ((f' 0 : Nat) : Int), .int .u64 ((f' 1 : Nat) : Int), .int .u64 ((f' 2 : Nat) : Int), .int .u64 ((f' 3 : Nat) : Int), .int .u64 ((f' 4 : Nat) : Int), .int .u64 ((f' 5 : Nat) : Int), .int .u64 ((f' 6 : Nat) : Int), .int .u64 ((f' 7 : Nat) : Int)]) ∧ Below w.heap.size w w') := fun q hq f hf => by
      refine ⟨fun j => (sigW ((fitW S c).take (q + 1))).getD j 0, fun _ => rfl, fun w => ?_⟩
      have h1 := Sg.rwith_any (sigW ((fitW S c).take q)) (sigW_ok _) ((fitW S c).getD q noWt).c w
      rw [← sigW_snoc _ q hq] at h1
      unfold Sg.sv at h1
      rw [sc_eq _ (sigW_ok _), sc_eq _ (sigW_ok _), show (fun j => (sigW ((fitW S c).take q)).getD j 0) = f from funext hf] at h1
      exact h1
    have HF0 : Hid (∀ j, (sigW ((fitW S c).take 0)).getD j 0 = (fun _ => 0 : Nat → Nat) j) := fun j => by
      show Sg.nought.getD j 0 = 0
      rcases j with _ | _ | _ | _ | _ | _ | _ | _ | j
      all_goals rfl
    have HFE : Hid (∀ f : Nat → Nat, (∀ j, (sigW ((fitW S c).take (fitW S c).length)).getD j 0 = f j) → (fun j => (newE S c).s.getD j 0) = f) := fun f hf => funext fun j => by rw [← hf j, List.take_length]; rfl
    generalize hnw : (fitW S c).length = nw at *
    have hubw : ∀ b, (Value.slice ua nw ucap).ownBlock = some b → w.heap.size ≤ b ∧ b < y3.heap.size := fun b hbb => ⟨Nat.le_trans (below_drawn HB1.out nq).size (hou.lt b hbb).1, (hou.lt b hbb).2⟩
    have HUBW : Hid (∀ b, (Value.slice ua nw ucap).ownBlock = some b → w.heap.size ≤ b ∧ b < y3.heap.size) := hubw
    clear hou hb3 k0 k1 k3 hubw
    go_wp2
    have HR4 : Hid ((y3.alloc (.cells (enA (.slice ua nw ucap) (fun _ => 0) 0) 114)).heap[y3.heap.size]? = some (.cells (enA (.slice ua nw ucap) (fun _ => 0) 0) 114 (0, 0))) := heap_alloc_new y3 _
    go_loopw [11] (fun iv wr => ∃ q : Nat, q ≤ nw ∧ iv = .int .i64 q ∧ ∃ f : Nat → Nat, (∀ j, (sigW ((fitW S c).take q)).getD j 0 = f j) ∧ wr.heap[y3.heap.size]? = some (.cells (enA (.slice ua nw ucap) f 0) 114 (0, 0)) ∧ Keep [y3.heap.size] (y3.alloc (.cells (enA (.slice ua nw ucap) (fun _ => 0) 0) 114)) wr) (fun iv _ => nw - (intOf iv).toNat)
    case atStart => exact ⟨0, Nat.zero_le _, rfl, fun _ => 0, HF0.out, HR4.out, Keep.refl _ _⟩
    case round =>
      obtain ⟨q, hq, rfl, f, hf, hr, hkp⟩ := hrel
      have HF : Hid (∀ j, (sigW ((fitW S c).take q)).getD j 0 = f j) := hf
      have HKP : Hid (Keep [y3.heap.size] (y3.alloc (.cells (enA (.slice ua nw ucap) (fun _ => 0) 0) 114)) wr) := hkp
      have HRW : Hid (wr.heap[y3.heap.size]? = some (.cells (enA (.slice ua nw ucap) f 0) 114 (0, 0))) := hr
      have hB := heap_lt hr
      obtain ⟨⟨x0, x1, x2, x3, x4, x5, x6, x7, x8, x9⟩, _⟩ := en_cells hr
      have hsz := hkp.size
      clear hf hkp hr
      by_cases hlt : q < nw
      · have d2 : decide ((q : Int) < (nw : Int)) = true := by simp; omega
        have hx2 : (q : Int) < (nw : Int) := by omega
        obtain ⟨ub, rfl, hubl, hcu⟩ := HCW.out q hlt
        obtain ⟨f', hf', hcall⟩ := HWT.out q hlt f HF.out
        have HF' : Hid (∀ j, (sigW ((fitW S c).take (q + 1))).getD j 0 = f' j) := hf'
        generalize ((fitW S c).getD q noWt).c = cq at *
        have HCL := hcall
        have hcu' : wr.cell? ⟨ub, q * 2, none⟩ = some (.int .i64 cq) := by
          rw [World.cell?_of_block (HKP.out.block ub (by simp; omega) (by simp; omega)), World.cell?_alloc_past _ _ _ hubl]
          exact hcu
        have HC : Hid (∀ w, Calls Try.prog 41 #[.agg #[.int .u64 ((f 0 : Nat) : Int), .int .u64 ((f 1 : Nat) : Int), .int .u64 ((f 2 : Nat) : Int), .int .u64 ((f 3 : Nat) : Int), .int .u64 ((f 4 : Nat) : Int), .int .u64 ((f 5 : Nat) : Int), .int .u64 ((f 6 : Nat) : Int), .int .u64 ((f 7 : Nat) : Int)], .int .i64 cq] w fun e w' => e = .returned (.agg #[.int .u64 ((f' 0 : Nat) : Int), .int .u64 ((f' 1 : Nat) : Int), .int .u64 ((f' 2 : Nat) : Int), .int .u64 ((f' 3 : Nat) : Int), .int .u64 ((f' 4 : Nat) : Int), .int .u64 ((f' 5 : Nat) : Int), .int .u64 ((f' 6 : Nat) : Int), .int .u64 ((f' 7 : Nat) : Int)]) ∧ Below w.heap.size w w') := hcall
        clear hf' hcall HCL hcu
        go_wp2_with fail
        go_region_with ((go_at_call 41; refine (HC.out _).mono ?_; rintro e y6 ⟨rfl, hb6⟩; have HR6 : Hid (y6.heap[y3.heap.size]? = some (.cells (enA (.slice (some ⟨ub, 0, none⟩) nw ucap) f 0) 114 (0, 0))) := row_on (w := World.drew wr) HRW.out hb6; obtain ⟨_, g1, g2, g3, g4, g5, g6, g7, g8⟩ := en_cells HR6.out; obtain ⟨⟨_, t1, t2, t3, t4, t5, t6, t7, t8, _⟩, _⟩ := en_cells HR6.out; have hB6 := heap_lt HR6.out))
        all_goals
          have HK6 : Hid (Keep [y3.heap.size] (y3.alloc (.cells (enA (.slice (some ⟨ub, 0, none⟩) nw ucap) (fun _ => 0) 0) 114)) y6) := HKP.out.trans (Keep.of_below (below_then (below_drawn (Below.refl _ _) 1) hb6) [y3.heap.size]) (fun b hb => Or.inl hb)
          clear hb6 t1 t2 t3 t4 t5 t6 t7 t8 x0 x1 x2 x3 x4 x5 x6 x7 x8 x9
          go_wp2
          go_roundw
          case rel => exact ⟨q + 1, by omega, by go_num, f', HF'.out, en_set HR6.out f', keep8 HK6.out f'⟩
          case measure => simp [intOf]; omega
      · obtain rfl : q = nw := by omega
        have d2 : decide ((q : Int) < (q : Int)) = false := by simp
        obtain ⟨i0, hi, hz0, hz1, hz2⟩ := info_parts info_ent
        have hFl : ∀ b ∈ F ++ P, b < w.heap.size := fun b hb => by
          rcases List.mem_append.1 hb with h1 | h1
          · exact (HH.out.mem.lt b h1).2
          · exact (HH.out.gr.lt b h1).2
        have hBn : y3.heap.size ∉ F ++ P := fun e => by have := hFl _ e; omega
        have HMA : GM (y3.alloc (.cells (enA (.slice ua q ucap) (fun _ => 0) 0) 114)) base (.pointer (some ⟨M, 0, none⟩)) c L F Gk g P := HM3.out.below (below_a1 _ _)
        have HMR : Hid (GM wr base (.pointer (some ⟨M, 0, none⟩)) c L F Gk g P) := ⟨HMA.mem.keep HKP.out (fun b hb e => by simp at e; subst e; exact hBn (List.mem_append_left _ hb)), HMA.gr.keep HKP.out (fun b hb e => by simp at e; subst e; exact hBn (List.mem_append_right _ hb)), HMA.apart⟩
        have HOR : Hid (wr.ownsRow base 117 2 (.slice ua q ucap) q (wtC (fitW S c))) := own_keep (HOU.out.alloc _) HKP.out (fun b hb e => by
          simp at e; subst e
          have := (HUBW.out _ hb).2
          omega)
        have HNR : Hid (Next (F ++ P) (F ++ P) w wr) := ⟨((Keep.of_below HB3.out (F ++ P)).alloc _).trans HKP.out (fun b hb => by simp at hb; subst hb; exact Or.inr hy3), fun b hb => Or.inl hb⟩
        have hbr : base ≤ wr.heap.size := Nat.le_trans hb HNR.out.1.size
        have hwr : w.heap.size ≤ wr.heap.size := HNR.out.1.size
        obtain ⟨v5, us5, hg5⟩ := HMR.out.gr
        obtain ⟨⟨j0, j1, j2, j3⟩, z1, _⟩ := hg5.cells
        have hGkr : Gk < wr.heap.size := heap_lt hg5.m
        have HG5 : Hid (GAt' wr base Gk g P v5 us5) := hg5
        have HEQ := HFE.out f HF.out
        have HGE : Hid (geC (.slice ua q ucap) (newE S c) = [.slice ua q ucap, .int .u64 ((f 0 : Nat) : Int), .int .u64 ((f 1 : Nat) : Int), .int .u64 ((f 2 : Nat) : Int), .int .u64 ((f 3 : Nat) : Int), .int .u64 ((f 4 : Nat) : Int), .int .u64 ((f 5 : Nat) : Int), .int .u64 ((f 6 : Nat) : Int), .int .u64 ((f 7 : Nat) : Int), .int .i64 0]) := by
          rw [Hid, geC_eq _ _ (newE_ok S c).1, HEQ]; rfl
        have HNW : Hid ((newE S c).w.length = q) := hnw
        have hvGk : v5.ownBlock ≠ some Gk := own_ne hg5.own hg5.m (by decide)
        obtain ⟨ra5, cap5, rfl⟩ := own_slice hg5.own
        have hgl : (gesC us5 g.l).length = g.l.length * 10 := gesC_len us5 g.l hg5.ulen hg5.okS
        clear hg5 HEQ HMA j0 j2 j3
        generalize hnl : g.l.length = nl at *
        have HOWN5 : Hid (wr.ownsRow base 114 10 (.slice ra5 nl cap5) nl (gesC us5 g.l)) := by
          have := HG5.out.own
          rw [hnl] at this
          exact this
        go_wp2_with fail
        go_region_law ((refine step_lies_wide _ (by rfl) _ _ _ (by rfl) base 114 i0 _ 10 96 Try.underlying69 hi hz0 hz1 hz2 rfl (by omega) (.slice ra5 nl cap5) nl (gesC us5 g.l) (by rfl) ((HOWN5.out.alloc _).drew) ⟨wr.heap.size, 0, none⟩ 1 1 [.slice ua q ucap, .int .u64 ((f 0 : Nat) : Int), .int .u64 ((f 1 : Nat) : Int), .int .u64 ((f 2 : Nat) : Int), .int .u64 ((f 3 : Nat) : Int), .int .u64 ((f 4 : Nat) : Int), .int .u64 ((f 5 : Nat) : Int), .int .u64 ((f 6 : Nat) : Int), .int .u64 ((f 7 : Nat) : Int), .int .i64 0] (by rfl) (by rfl) (World.news_of_block (cs := #[.slice ua q ucap, .int .u64 ((f 0 : Nat) : Int), .int .u64 ((f 1 : Nat) : Int), .int .u64 ((f 2 : Nat) : Int), .int .u64 ((f 3 : Nat) : Int), .int .u64 ((f 4 : Nat) : Int), .int .u64 ((f 5 : Nat) : Int), .int .u64 ((f 6 : Nat) : Int), .int .u64 ((f 7 : Nat) : Int), .int .i64 0]) (t := 114) (fr := (0, 0)) (heap_alloc_new wr _)) (by simp [Value.oneCell']) (by omega) (by unfold maxLen; omega) (by omega) (by simp; omega) (wr.heap.size + 1) (by simp) ?_; intro gg cap' w6 hown1 hgrow hat hlt6; have hs1 : w6.cell? ⟨Gk, 1, none⟩ = some (.slice ra5 nl cap5) := (by rw [hgrow.cell_far _ (by simp; omega) (Ne.symm hvGk)]; simp [hGkr, World.cell?_alloc_past, j1]); have hs2 : w6.frozen? ⟨Gk, 1, none⟩ = false := (by rw [hgrow.frozen_far _ (by simp; omega) (Ne.symm hvGk)]; rw [fr_drew, World.frozen?_alloc_past _ _ _ hGkr]; exact z1)))
        all_goals
          obtain ⟨P', hm8, hp8, hk8⟩ := pub_end (e := newE S c) (B0 := w.heap.size) HMR.out HG5.out hnl hwr (fun b hb => hFl b (List.mem_append_left _ hb)) (by rw [HNW.out]; exact HOR.out) (fun b hb => (HUBW.out b hb).1) (newE_ok S c) (((Keep.refl [] wr).alloc _).drewN 1) (by rw [HGE.out]; exact hown1) hgrow (by rcases hat with e | e; exact Or.inl e; exact Or.inr (by omega))
          have HM8 : Hid (GM (w6.setCell ⟨Gk, 1, none⟩ (.slice (some ⟨gg, 0, none⟩) (nl + 1) cap')) base (.pointer (some ⟨M, 0, none⟩)) c L F Gk ⟨g.size, g.l ++ [newE S c], g.laid, g.done⟩ P') := hm8
          have HN8 : Hid (Next (F ++ P) (F ++ P') w (w6.setCell ⟨Gk, 1, none⟩ (.slice (some ⟨gg, 0, none⟩) (nl + 1) cap'))) := ⟨HNR.out.1.trans hk8 (fun b hb => Or.inl (List.mem_append_right _ hb)), fun b hb => by
            rcases List.mem_append.1 hb with h1 | h1
            · exact Or.inl (List.mem_append_left _ h1)
            · rcases hp8 b h1 with h2 | h2
              · exact Or.inl (List.mem_append_right _ h2)
              · exact Or.inr h2⟩
          obtain ⟨v8, us8, hg8⟩ := hm8.gr
          have l1 : (w6.setCell ⟨Gk, 1, none⟩ (.slice (some ⟨gg, 0, none⟩) (nl + 1) cap')).cell? ⟨Gk, 1, none⟩ = some (.slice (some ⟨gg, 0, none⟩) (nl + 1) cap') := by
            have h9 := hg8.m
            have h10 : w6.heap[Gk]? = some (.cells #[.int .i64 (g.size : Int), .slice ra5 nl cap5, .int .i64 (g.laid : Int), .int .i64 (g.done : Int)] 71 (0, 0)) := by
              have k0 : Keep (Value.slice ra5 nl cap5).ownBlock.toList wr w6 := (((Keep.refl [] wr).alloc _).drewN 1 |>.mono (fun b hb => by simp at hb)).grown hgrow (fun b hb => Or.inl (by rw [hb]; simp))
              rw [k0.block _ hGkr (fun hm => hvGk (by simpa using hm))]
              exact HG5.out.m
            rw [cell_at (heap_set h10 1 _)]; rfl
          have hb8 : base ≤ (w6.setCell ⟨Gk, 1, none⟩ (.slice (some ⟨gg, 0, none⟩) (nl + 1) cap')).heap.size := Nat.le_trans hb HN8.out.1.size
          clear hm8 hp8 hk8 hg8 hs1 hs2 hown1 hgrow hat hlt6
          go_wp2_with fail
          generalize w6.setCell ⟨Gk, 1, none⟩ (.slice (some ⟨gg, 0, none⟩) (nl + 1) cap') = y8 at *
          have HST := gm_store HM8.out hb8 (show L.length < 3298534883328 by omega) (-1) ⟨1, 0, 0⟩ ((nl : Int) + 1)
          refine HST.mono ?_
          rintro e y9 ⟨rfl, F9, hm9, hn9⟩
          have HE : Hid (∃ F' P', GM y9 base (.pointer (some ⟨M, 0, none⟩)) c (storeL c g.size L (-1) ⟨1, 0, 0⟩ ((nl : Int) + 1)) F' Gk ⟨g.size, g.l ++ [newE S c], g.laid, g.done⟩ P' ∧ Next (F ++ P) (F' ++ P') w y9) := ⟨F9, P', hm9, HN8.out.trans hn9⟩
          clear hm9 hn9 HST
          go_wp2
          refine bodyPost_end (results_none rfl _ _ _) rfl ?_
          exact ⟨rfl, HE.out⟩
  · have d1 : decide ((g.l.length : Int) - (g.done : Int) < (g.size : Int)) = false := by simpa using hp
    have hok : pubOk g = false := by simpa [pubOk] using hp
    unfold pubS
    simp only
    rw [if_neg (by simp [hok])]
    go_enter Try.func21, Try.ntmps21
    go_wp2_with fail
    refine HZ.out.mono ?_
    rintro e y1 ⟨rfl, hb1⟩
    have HB1 : Hid (Below w.heap.size w y1) := hb1
    replace k0 := cell_later hb1 hGk k0
    replace k1 := cell_later hb1 hGk k1
    replace k3 := cell_later hb1 hGk k3
    clear hb1 k2 z1 z2 z3
    go_wp2_with fail
    refine (HP.out _).mono ?_
    rintro e y2 ⟨rfl, rfl⟩
    go_wp2_with fail
    go_quiet (fail)
    go_wp2
    refine bodyPost_end (results_none rfl _ _ _) rfl ?_
    exact ⟨rfl, F, P, HH.out.below (below_drawn HB1.out _), Next.of_below (below_drawn HB1.out _) _⟩
end Go.Proofs.Ytfbbcjlbelnfaaa
