/- A job (layer 21) as it lies. -/
import Derived.Test.YthnegagpmkblfaaGreatDoorPjM
import Derived.Test.YthnegagpmkblfaaGreatDoorJTxNTxP
import Derived.Test.YthnegagpmkblfaaGreatDoorJCtAQuK
import Derived.Deep.CutBlock
import Derived.Deep.DeepCutAuto
import Derived.Test.YthnegagpmkblfaaGreatDoorJDiBDiA
import Derived.Test.YthnegagpmkblfaaGreatDoorJChTChB
namespace Go.Proofs.YthnegagpmkblfaaGreatDoor.Pj
open Go.ChangeShapes Go.WideShapes Go.ChangeAt Go.RowKit
open Tl (Wn wn0 nth numC)

theorem keep_tl {F : List Nat} {w w' : World} (k : Keep F w w') : Tl.Keep F w w' := ⟨k.os, k.tape, k.output, k.size, k.block⟩
/-! ### segments of blocks -/
def Dj (a b : List Nat) : Prop := ∀ q ∈ a, q ∉ b
theorem Dj.symm {a b : List Nat} (h : Dj a b) : Dj b a := fun q hb ha => h q ha hb
theorem seg_ne {S : List (List Nat)} (h : S.Pairwise Dj) : ∀ {i k : Nat}, i < k → Dj (S.getD i []) (S.getD k []) := by
  induction h with
  | nil => intro i k _ q hq; simp at hq
  | @cons a l ha _ ih =>
    intro i k hik
    cases k with
    | zero => omega
    | succ k =>
      cases i with
      | zero =>
        intro q hq hk
        simp only [List.getD_cons_zero, List.getD_cons_succ] at hq hk
        by_cases hl : k < l.length
        · rw [List.getD_eq_getElem?_getD, List.getElem?_eq_getElem hl] at hk
          exact ha _ (List.getElem_mem hl) q hq hk
        · rw [List.getD_eq_getElem?_getD, List.getElem?_eq_none (by omega)] at hk
          simp at hk
      | succ i => simpa using ih (by omega)
theorem seg_dj {S : List (List Nat)} (h : S.Pairwise Dj) {i k : Nat} (hik : i ≠ k) : Dj (S.getD i []) (S.getD k []) := by
  rcases Nat.lt_or_gt_of_ne hik with h1 | h1
  · exact seg_ne h h1
  · exact (seg_ne h h1).symm
/-- A collection's call, as it lies behind an interface. -/
def AkAt (w : World) (base : Nat) (kv : Value) (F : List Nat) : Option Ak → Prop
  | none => kv = .nilIface ∧ F = []
  | some (.ct m) => ∃ M, kv = .iface 214 (.pointer (some ⟨M, 0, none⟩)) ∧ Tl.Ct.McAt w M F m ∧ ∀ q ∈ F, base ≤ q
  | some (.qu m) => ∃ M, kv = .iface 217 (.pointer (some ⟨M, 0, none⟩)) ∧ Tl.Qu.McAt w M F m ∧ ∀ q ∈ F, base ≤ q
  | some (.di m) => ∃ M, kv = .iface 220 (.pointer (some ⟨M, 0, none⟩)) ∧ Tl.Di.McAt w M F m ∧ ∀ q ∈ F, base ≤ q
  | some (.ch m) => ∃ M, kv = .iface 223 (.pointer (some ⟨M, 0, none⟩)) ∧ Tl.Ch.McAt w M F m ∧ ∀ q ∈ F, base ≤ q
theorem AkAt.keep {w w' : World} {base : Nat} {kv : Value} {F K : List Nat} {a : Option Ak} (h : AkAt w base kv F a) (k : Keep K w w') (hd : ∀ q ∈ F, q ∉ K) : AkAt w' base kv F a := by
  match a, h with
  | none, h => exact h
  | some (.ct m), ⟨M, e, h, b⟩ => exact ⟨M, e, h.keep (keep_tl k) hd, b⟩
  | some (.qu m), ⟨M, e, h, b⟩ => exact ⟨M, e, h.keep (keep_tl k) hd, b⟩
  | some (.di m), ⟨M, e, h, b⟩ => exact ⟨M, e, h.keep (keep_tl k) hd, b⟩
  | some (.ch m), ⟨M, e, h, b⟩ => exact ⟨M, e, h.keep (keep_tl k) hd, b⟩
theorem AkAt.lt {w : World} {base : Nat} {kv : Value} {F : List Nat} {a : Option Ak} (h : AkAt w base kv F a) : ∀ q ∈ F, base ≤ q ∧ q < w.heap.size := by
  match a, h with
  | none, ⟨_, hF⟩ => intro q hq; rw [hF] at hq; simp at hq
  | some (.ct m), ⟨M, e, h, b⟩ => exact fun q hq => ⟨b q hq, h.lt q hq⟩
  | some (.qu m), ⟨M, e, h, b⟩ => exact fun q hq => ⟨b q hq, h.lt q hq⟩
  | some (.di m), ⟨M, e, h, b⟩ => exact fun q hq => ⟨b q hq, h.lt q hq⟩
  | some (.ch m), ⟨M, e, h, b⟩ => exact fun q hq => ⟨b q hq, h.lt q hq⟩
/-- How a job's parts lie. -/
structure Jv where
  T : Nat
  rv : Value
  av : Value
  sv : Value
  rtv : Value
  tlv : Value
  ev : Value
  kv : Value
  F : List Nat
  G : List Nat
abbrev bl (v : Value) : List Nat := v.ownBlock.toList
def Jv.segs (y : Jv) (X : Nat) : List (List Nat) := [[X], bl y.rv, bl y.av, bl y.sv, bl y.rtv, bl y.tlv, bl y.ev, y.F, y.G]
def jobC (j : Jb) (y : Jv) : Array Value := Tl.Pg.jobR j.cf y.rv (Tl.Pc.cellsV j.cf).1 j.code y.av j.nr (.pointer (some ⟨y.T, 0, none⟩)) j.pub j.pl j.nx y.sv y.rtv y.tlv j.wt y.kv j.rd y.ev j.ov j.err
structure JAt' (w : World) (base X : Nat) (j : Jb) (y : Jv) : Prop where
  raw : w.heap[X]? = some (.cells (jobC j y) 83 (0, 0))
  rg : w.ownsRow base 121 3 y.rv j.cf.R.length (Tl.Pg.rgsC j.cf j.cf.R.length)
  ar : w.ownsRow base 2 1 y.av j.args.length (numC j.args)
  st : w.ownsRow base 2 1 y.sv j.st.length (numC j.st)
  rt : w.ownsRow base 3 1 y.rtv j.rt.length (numC j.rt)
  tl : w.ownsRow base 2 1 y.tlv j.tl.length (numC j.tl)
  er : w.ownsRow base 93 19 y.ev j.er.length (evsC j.er)
  ak : AkAt w base y.kv y.F j.ak
  tx : TxAt w base y.T j.tx y.G
  dj : (y.segs X).Pairwise Dj
  bX : base ≤ X
theorem own_lt {w : World} {base e s n : Nat} {v : Value} {xs : List Value} (h : w.ownsRow base e s v n xs) : ∀ q ∈ bl v, base ≤ q ∧ q < w.heap.size := fun q hq => own_block h q (by simpa using hq)
theorem JAt'.lt {w : World} {base X : Nat} {j : Jb} {y : Jv} (h : JAt' w base X j y) : ∀ a ∈ y.segs X, ∀ q ∈ a, base ≤ q ∧ q < w.heap.size := by
  intro a ha q hq
  simp only [Jv.segs, List.mem_cons, List.not_mem_nil, or_false] at ha
  rcases ha with rfl | rfl | rfl | rfl | rfl | rfl | rfl | rfl | rfl
  · simp at hq; subst hq; exact ⟨h.bX, heap_lt h.raw⟩
  · exact own_lt h.rg q hq
  · exact own_lt h.ar q hq
  · exact own_lt h.st q hq
  · exact own_lt h.rt q hq
  · exact own_lt h.tl q hq
  · exact own_lt h.er q hq
  · exact h.ak.lt q hq
  · exact h.tx.lt q hq
theorem own_kp {w w' : World} {K : List Nat} {base e s n : Nat} {v : Value} {xs : List Value} (h : w.ownsRow base e s v n xs) (k : Keep K w w') (hd : ∀ q ∈ bl v, q ∉ K) : w'.ownsRow base e s v n xs := own_keep h k (fun b hb => hd b (by simp [hb]))
/-- Nothing of it changes. -/
theorem JAt'.keep {w w' : World} {base X : Nat} {j : Jb} {y : Jv} {K : List Nat} (h : JAt' w base X j y) (k : Keep K w w') (hd : ∀ a ∈ y.segs X, ∀ q ∈ a, q ∉ K) : JAt' w' base X j y := by
  have hm : ∀ i, i < 9 → ∀ q ∈ (y.segs X).getD i [], q ∉ K := by
    intro i hi
    refine hd _ ?_
    have hl : i < (y.segs X).length := hi
    rw [List.getD_eq_getElem?_getD, List.getElem?_eq_getElem hl]
    exact List.getElem_mem hl
  exact ⟨(k.block X (heap_lt h.raw) (hm 0 (by decide) X (by simp [Jv.segs]))).trans h.raw, own_kp h.rg k (hm 1 (by decide)), own_kp h.ar k (hm 2 (by decide)), own_kp h.st k (hm 3 (by decide)), own_kp h.rt k (hm 4 (by decide)), own_kp h.tl k (hm 5 (by decide)), own_kp h.er k (hm 6 (by decide)), h.ak.keep k (hm 7 (by decide)), h.tx.keep k (hm 8 (by decide)), h.dj, h.bX⟩
/-- What stands of it where its own block and one segment changed. -/
structure Kp (w' : World) (base : Nat) (j : Jb) (y : Jv) (i : Nat) : Prop where
  rg : i ≠ 1 → w'.ownsRow base 121 3 y.rv j.cf.R.length (Tl.Pg.rgsC j.cf j.cf.R.length)
  ar : i ≠ 2 → w'.ownsRow base 2 1 y.av j.args.length (numC j.args)
  st : i ≠ 3 → w'.ownsRow base 2 1 y.sv j.st.length (numC j.st)
  rt : i ≠ 4 → w'.ownsRow base 3 1 y.rtv j.rt.length (numC j.rt)
  tl : i ≠ 5 → w'.ownsRow base 2 1 y.tlv j.tl.length (numC j.tl)
  er : i ≠ 6 → w'.ownsRow base 93 19 y.ev j.er.length (evsC j.er)
  ak : i ≠ 7 → AkAt w' base y.kv y.F j.ak
  tx : i ≠ 8 → TxAt w' base y.T j.tx y.G
theorem JAt'.kp {w w' : World} {base X : Nat} {j : Jb} {y : Jv} {K : List Nat} (h : JAt' w base X j y) (k : Keep K w w') (i : Nat) (hK : ∀ q ∈ K, q = X ∨ q ∈ (y.segs X).getD i [] ∨ w.heap.size ≤ q) : Kp w' base j y i := by
  have hm : ∀ n, n < 9 → n ≠ 0 → i ≠ n → ∀ q ∈ (y.segs X).getD n [], q ∉ K := by
    intro n hn h0 hi q hq hk
    have hl : n < (y.segs X).length := hn
    have hm : (y.segs X).getD n [] ∈ y.segs X := by
      rw [List.getD_eq_getElem?_getD, List.getElem?_eq_getElem hl]
      exact List.getElem_mem hl
    rcases hK q hk with rfl | h1 | h1
    · exact seg_dj h.dj (Ne.symm h0) q (by simp [Jv.segs]) hq
    · exact seg_dj h.dj hi q h1 hq
    · have := (h.lt _ hm q hq).2; omega
  exact ⟨fun hi => own_kp h.rg k (hm 1 (by decide) (by decide) hi), fun hi => own_kp h.ar k (hm 2 (by decide) (by decide) hi), fun hi => own_kp h.st k (hm 3 (by decide) (by decide) hi), fun hi => own_kp h.rt k (hm 4 (by decide) (by decide) hi), fun hi => own_kp h.tl k (hm 5 (by decide) (by decide) hi), fun hi => own_kp h.er k (hm 6 (by decide) (by decide) hi), fun hi => h.ak.keep k (hm 7 (by decide) (by decide) hi), fun hi => h.tx.keep k (hm 8 (by decide) (by decide) hi)⟩
end Go.Proofs.YthnegagpmkblfaaGreatDoor.Pj
/- A new try; New. -/
namespace Go.Proofs.YthnegagpmkblfaaGreatDoor.Pj
open Go.ChangeShapes Go.WideShapes Go.ChangeAt Go.RowKit
open Tl (Wn wn0 nth numC Nl)
attribute [local go_sem ↓] Go.wp_at_zero Go.wp_at_succ

theorem job_cells {w : World} {X : Nat} {cf : Tl.Pc.Cf} {rv : Value} {n : Int} {code : ByteArray} {av : Value} {nr : Int} {tv : Value} {pub : Bool} {pl nx : Int} {sv rtv tlv : Value} {wt : Wn} {kv : Value} {rd : Int} {ev : Value} {ov : Bool} {er : Int} (h : w.heap[X]? = some (.cells (Tl.Pg.jobR cf rv n code av nr tv pub pl nx sv rtv tlv wt kv rd ev ov er) 83 (0, 0))) :
    w.cell? ⟨X, 0, none⟩ = some (.int .i64 cf.raw) ∧ w.cell? ⟨X, 1, none⟩ = some (.int .i64 cf.ring) ∧ w.cell? ⟨X, 2, none⟩ = some (.int .i64 cf.wrs) ∧ w.cell? ⟨X, 3, none⟩ = some (.int .i64 cf.st) ∧ w.cell? ⟨X, 4, none⟩ = some (.bool cf.multi) ∧ w.cell? ⟨X, 5, none⟩ = some (.int .i64 cf.tries) ∧ w.cell? ⟨X, 6, none⟩ = some (.slice none 0 0) ∧ w.cell? ⟨X, 7, none⟩ = some (rv) ∧ w.cell? ⟨X, 8, none⟩ = some (.int .i64 n) ∧ w.cell? ⟨X, 9, none⟩ = some (.string code) ∧ w.cell? ⟨X, 10, none⟩ = some (av) ∧ w.cell? ⟨X, 11, none⟩ = some (.int .i64 nr) ∧ w.cell? ⟨X, 12, none⟩ = some (tv) ∧ w.cell? ⟨X, 13, none⟩ = some (.bool pub) ∧ w.cell? ⟨X, 14, none⟩ = some (.int .i64 pl) ∧ w.cell? ⟨X, 15, none⟩ = some (.int .i64 nx) ∧ w.cell? ⟨X, 16, none⟩ = some (sv) ∧ w.cell? ⟨X, 17, none⟩ = some (rtv) ∧ w.cell? ⟨X, 18, none⟩ = some (tlv) ∧ w.cell? ⟨X, 19, none⟩ = some (.int .i64 wt.kind) ∧ w.cell? ⟨X, 20, none⟩ = some (.int .i64 wt.cell) ∧ w.cell? ⟨X, 21, none⟩ = some (.int .i64 wt.val) ∧ w.cell? ⟨X, 22, none⟩ = some (.int .i64 wt.code) ∧ w.cell? ⟨X, 23, none⟩ = some (kv) ∧ w.cell? ⟨X, 24, none⟩ = some (.int .i64 rd) ∧ w.cell? ⟨X, 25, none⟩ = some (ev) ∧ w.cell? ⟨X, 26, none⟩ = some (.bool ov) ∧ w.cell? ⟨X, 27, none⟩ = some (.int .i64 er) :=
  ⟨(cell_at h 0).trans rfl, (cell_at h 1).trans rfl, (cell_at h 2).trans rfl, (cell_at h 3).trans rfl, (cell_at h 4).trans rfl, (cell_at h 5).trans rfl, (cell_at h 6).trans rfl, (cell_at h 7).trans rfl, (cell_at h 8).trans rfl, (cell_at h 9).trans rfl, (cell_at h 10).trans rfl, (cell_at h 11).trans rfl, (cell_at h 12).trans rfl, (cell_at h 13).trans rfl, (cell_at h 14).trans rfl, (cell_at h 15).trans rfl, (cell_at h 16).trans rfl, (cell_at h 17).trans rfl, (cell_at h 18).trans rfl, (cell_at h 19).trans rfl, (cell_at h 20).trans rfl, (cell_at h 21).trans rfl, (cell_at h 22).trans rfl, (cell_at h 23).trans rfl, (cell_at h 24).trans rfl, (cell_at h 25).trans rfl, (cell_at h 26).trans rfl, (cell_at h 27).trans rfl⟩
theorem set14 (cf : Tl.Pc.Cf) (rv : Value) (n : Int) (code : ByteArray) (av : Value) (nr : Int) (tv : Value) (pub : Bool) (pl nx : Int) (sv rtv tlv : Value) (wt : Wn) (kv : Value) (rd : Int) (ev : Value) (ov : Bool) (er : Int) (m : Int) (tw : Value) : (((((((((((((((Tl.Pg.jobR cf rv n code av nr tv pub pl nx sv rtv tlv wt kv rd ev ov er).setIfInBounds 11 (.int .i64 m)).setIfInBounds 12 (tw)).setIfInBounds 13 (.bool false)).setIfInBounds 14 (.int .i64 0)).setIfInBounds 15 (.int .i64 0)).setIfInBounds 16 (.slice none 0 0)).setIfInBounds 17 (.slice none 0 0)).setIfInBounds 18 (.slice none 0 0)).setIfInBounds 19 (.int .i64 0)).setIfInBounds 20 (.int .i64 0)).setIfInBounds 21 (.int .i64 0)).setIfInBounds 22 (.int .i64 0)).setIfInBounds 23 (.nilIface)).setIfInBounds 24 (.int .i64 0)) = Tl.Pg.jobR cf rv n code av m tw false 0 0 (.slice none 0 0) (.slice none 0 0) (.slice none 0 0) wn0 .nilIface 0 ev ov er := by
  simp [Tl.Pg.jobR, wn0]
theorem wr1 {x : Int} (h : 0 ≤ x ∧ x ≤ 255) : wrap64 (x + 1) = x + 1 := by unfold wrap64; omega
theorem ok_parts {c : Tl.Pc.Cf} (h : Tl.Pc.okC c = true) : 1 ≤ c.raw ∧ c.raw ≤ 64 ∧ 1 ≤ c.ring ∧ c.ring ≤ 16 ∧ 1 ≤ c.wrs ∧ c.wrs ≤ 24 ∧ 1 ≤ c.st ∧ c.st ≤ 1099511627776 ∧ 1 ≤ c.tries ∧ c.tries ≤ 255 := by
  simp only [Tl.Pc.okC, Tl.Pc.okN, Bool.and_eq_true, decide_eq_true_eq] at h
  omega
set_option maxRecDepth 10000 in
set_option maxHeartbeats 2000000 in
/-- A new try: the job's cells, and its transaction. -/
theorem newTry_raw {w : World} {base X : Nat} {cf : Tl.Pc.Cf} {rv : Value} {n : Int} {code : ByteArray} {av : Value} {nr : Int} {tv : Value} {pub : Bool} {pl nx : Int} {sv rtv tlv : Value} {wt : Wn} {kv : Value} {rd : Int} {ev : Value} {ov : Bool} {er : Int} (hb : base ≤ w.heap.size) (hX : w.heap[X]? = some (.cells (Tl.Pg.jobR cf rv n code av nr tv pub pl nx sv rtv tlv wt kv rd ev ov er) 83 (0, 0))) (hc : Tl.Pc.okC cf = true) (hn : 0 ≤ nr ∧ nr ≤ 255) :
    Calls Tryz.prog 38 #[.pointer (some ⟨X, 0, none⟩)] w fun e w' => ∃ T G, e = .returned (.tuple #[]) ∧ w'.heap[X]? = some (.cells (Tl.Pg.jobR cf rv n code av (nr + 1) (.pointer (some ⟨T, 0, none⟩)) false 0 0 (.slice none 0 0) (.slice none 0 0) (.slice none 0 0) wn0 .nilIface 0 ev ov er) 83 (0, 0)) ∧ TxAt w' base T (newTx cf) G ∧ (∀ q ∈ G, w.heap.size ≤ q) ∧ Keep [X] w w' := by
  have HN : Hid (∀ w' : World, base ≤ w'.heap.size → Calls Tryz.prog 57 #[.agg #[.int .i64 cf.raw, .int .i64 cf.ring, .int .i64 cf.wrs, .int .i64 cf.st, .bool cf.multi, .int .i64 cf.tries, .slice none 0 0]] w' fun e w'' => ∃ T G, e = .returned (.tuple #[.pointer (some ⟨T, 0, none⟩), .int .i64 0]) ∧ TxAt w'' base T (newTx cf) G ∧ (∀ q ∈ G, w'.heap.size ≤ q) ∧ Below w'.heap.size w' w'') := fun w' hw => by
    obtain ⟨_, _, a1, a2, b1, b2, c1, c2, _⟩ := ok_parts hc
    have := newT_yes w' base hw cf.raw cf.ring.toNat cf.wrs.toNat cf.st cf.multi cf.tries (.slice none 0 0) (by omega) (by omega) c1 c2 (by omega) (by omega)
    unfold confT at this
    rw [show ((cf.ring.toNat : Nat) : Int) = cf.ring by omega, show ((cf.wrs.toNat : Nat) : Int) = cf.wrs by omega] at this
    exact this
  have hwr := wr1 hn
  have hl := heap_lt hX
  have HX : Hid (w.heap[X]? = some (.cells (Tl.Pg.jobR cf rv n code av nr tv pub pl nx sv rtv tlv wt kv rd ev ov er) 83 (0, 0))) := hX
  obtain ⟨c0, c1, c2, c3, c4, c5, c6, _⟩ := job_cells hX
  clear hX hn
  generalize newTx cf = NT at *
  obtain ⟨a, b, d, s, mu, t, R⟩ := cf
  dsimp only at *
  go_enter Tryz.func38, Tryz.ntmps38
  go_wp2_with fail
  refine (HN.out _ hb).mono ?_
  rintro e w1 ⟨T, G, rfl, hT, hG, hb1⟩
  have hX1 := row_on HX.out hb1
  have hl1 := heap_lt hX1
  obtain ⟨_, _, _, _, _, _, _, _, _, _, _, q11, q12, q13, q14, q15, q16, q17, q18, q19, q20, q21, q22, q23, q24, _⟩ := job_cells hX1
  have HX1 : Hid (w1.heap[X]? = some (.cells (Tl.Pg.jobR ⟨a, b, d, s, mu, t, R⟩ rv n code av nr tv pub pl nx sv rtv tlv wt kv rd ev ov er) 83 (0, 0))) := hX1
  have HB1 : Hid (Keep [X] w w1 ∧ TxAt w1 base T NT G ∧ (∀ q ∈ G, w.heap.size ≤ q)) := ⟨Keep.of_below hb1 _, hT, hG⟩
  have f := frozen_at hX1
  clear hX1 hb1 c0 c1 c2 c3 c4 c5 c6 HX HN hT hG hc
  go_wp2_with fail
  go_end0
  have hn1 : X ∉ G := fun hq => by have := HB1.out.2.2 X hq; omega
  have h11 := heap_set HX1.out 11 (.int .i64 (nr + 1))
  have h12 := heap_set h11 12 (.pointer (some ⟨T, 0, none⟩))
  have h13 := heap_set h12 13 (.bool false)
  have h14 := heap_set h13 14 (.int .i64 0)
  have h15 := heap_set h14 15 (.int .i64 0)
  have h16 := heap_set h15 16 (.slice none 0 0)
  have h17 := heap_set h16 17 (.slice none 0 0)
  have h18 := heap_set h17 18 (.slice none 0 0)
  have h19 := heap_set h18 19 (.int .i64 0)
  have h20 := heap_set h19 20 (.int .i64 0)
  have h21 := heap_set h20 21 (.int .i64 0)
  have h22 := heap_set h21 22 (.int .i64 0)
  have h23 := heap_set h22 23 (.nilIface)
  have h24 := heap_set h23 24 (.int .i64 0)
  have k11 := (Keep.refl [X] w1).setCell ⟨X, 11, none⟩ (.int .i64 (nr + 1)) (Or.inl (by simp))
  have k12 := k11.setCell ⟨X, 12, none⟩ (.pointer (some ⟨T, 0, none⟩)) (Or.inl (by simp))
  have k13 := k12.setCell ⟨X, 13, none⟩ (.bool false) (Or.inl (by simp))
  have k14 := k13.setCell ⟨X, 14, none⟩ (.int .i64 0) (Or.inl (by simp))
  have k15 := k14.setCell ⟨X, 15, none⟩ (.int .i64 0) (Or.inl (by simp))
  have k16 := k15.setCell ⟨X, 16, none⟩ (.slice none 0 0) (Or.inl (by simp))
  have k17 := k16.setCell ⟨X, 17, none⟩ (.slice none 0 0) (Or.inl (by simp))
  have k18 := k17.setCell ⟨X, 18, none⟩ (.slice none 0 0) (Or.inl (by simp))
  have k19 := k18.setCell ⟨X, 19, none⟩ (.int .i64 0) (Or.inl (by simp))
  have k20 := k19.setCell ⟨X, 20, none⟩ (.int .i64 0) (Or.inl (by simp))
  have k21 := k20.setCell ⟨X, 21, none⟩ (.int .i64 0) (Or.inl (by simp))
  have k22 := k21.setCell ⟨X, 22, none⟩ (.int .i64 0) (Or.inl (by simp))
  have k23 := k22.setCell ⟨X, 23, none⟩ (.nilIface) (Or.inl (by simp))
  have k24 := k23.setCell ⟨X, 24, none⟩ (.int .i64 0) (Or.inl (by simp))
  rw [set14] at h24
  refine ⟨T, G, rfl, h24, HB1.out.2.1.keep k24 (fun q hq => ?_), HB1.out.2.2, HB1.out.1.trans k24 (fun b hb => Or.inl hb)⟩
  simp
  rintro rfl
  exact hn1 hq
end Go.Proofs.YthnegagpmkblfaaGreatDoor.Pj
/- A job's own cells change: push, end; goesOver. -/
namespace Go.Proofs.YthnegagpmkblfaaGreatDoor.Pj
open Go.ChangeShapes Go.WideShapes Go.ChangeAt Go.RowKit
open Tl (Wn wn0 nth numC Nl)
attribute [local go_sem ↓] Go.wp_at_zero Go.wp_at_succ

theorem JAt'.fz {w : World} {base X : Nat} {j : Jb} {y : Jv} (h : JAt' w base X j y) (i : Nat) : w.frozen? ⟨X, i, none⟩ = false := frozen_at h.raw i
/-- Its block changes, nothing else. -/
theorem JAt'.put {w w' : World} {base X : Nat} {j j' : Jb} {y : Jv} (h : JAt' w base X j y) (hr : w'.heap[X]? = some (.cells (jobC j' y) 83 (0, 0))) (k : Keep [X] w w') (hj : j'.cf = j.cf ∧ j'.code = j.code ∧ j'.args = j.args ∧ j'.st = j.st ∧ j'.rt = j.rt ∧ j'.tl = j.tl ∧ j'.er = j.er ∧ j'.ak = j.ak ∧ j'.tx = j.tx) : JAt' w' base X j' y := by
  have hk := h.kp k 0 (fun q hq => Or.inl (by simpa using hq))
  obtain ⟨e1, e2, e3, e4, e5, e6, e7, e8, e9⟩ := hj
  refine ⟨hr, ?_, ?_, ?_, ?_, ?_, ?_, ?_, ?_, h.dj, h.bX⟩
  · rw [e1]; exact hk.rg (by decide)
  · rw [e3]; exact hk.ar (by decide)
  · rw [e4]; exact hk.st (by decide)
  · rw [e5]; exact hk.rt (by decide)
  · rw [e6]; exact hk.tl (by decide)
  · rw [e7]; exact hk.er (by decide)
  · rw [e8]; exact hk.ak (by decide)
  · rw [e9]; exact hk.tx (by decide)
theorem mem_segs {y : Jv} {X : Nat} (q : Nat) : q ∈ (y.segs X).flatten ↔ q = X ∨ q ∈ bl y.rv ∨ q ∈ bl y.av ∨ q ∈ bl y.sv ∨ q ∈ bl y.rtv ∨ q ∈ bl y.tlv ∨ q ∈ bl y.ev ∨ q ∈ y.F ∨ q ∈ y.G := by
  simp [Jv.segs]
/-- Can it go on over that memory? -/
def overV (j : Jb) (c r : Nat) : Bool := decide ((r : Int) = j.cf.ring) && decide ((Tl.Pc.cellsV j.cf).1 ≤ (c : Int))
theorem goes_any {w : World} {base X : Nat} {j : Jb} {y : Jv} (h : JAt' w base X j y) {bm : Nat} {p : Value} {c r : Nat} {L : List Ac} {F : List Nat} (hm : MemAt w bm p c r L F) :
    Calls Tryz.prog 25 #[.pointer (some ⟨X, 0, none⟩), p] w fun e w' => e = .returned (.bool (overV j c r)) ∧ Below w.heap.size w w' := by
  have HS : Hid (Calls Tryz.prog 41 #[p] w fun e w' => e = .returned (.tuple #[.int .i64 (c : Int), .int .i64 (r : Int)]) ∧ Below w.heap.size w w') := sizes_any hm
  have c1 : w.cell? ⟨X, 1, none⟩ = some (.int .i64 j.cf.ring) := (cell_at h.raw 1).trans rfl
  have c8 : w.cell? ⟨X, 8, none⟩ = some (.int .i64 (Tl.Pc.cellsV j.cf).1) := (cell_at h.raw 8).trans rfl
  have hX := heap_lt h.raw
  obtain ⟨M, rfl⟩ : ∃ M, p = .pointer (some ⟨M, 0, none⟩) := by
    obtain ⟨M, _, _, _, _, hm⟩ := hm
    exact ⟨M, hm.p⟩
  unfold overV
  generalize (Tl.Pc.cellsV j.cf).1 = z at *
  generalize j.cf.ring = q at *
  clear h hm
  go_enter Tryz.func25, Tryz.ntmps25
  go_wp2_with fail
  refine HS.out.mono ?_
  rintro e w1 ⟨rfl, hw⟩
  have d1 := cell_later hw (a := ⟨X, 1, none⟩) hX c1
  have d8 := cell_later hw (a := ⟨X, 8, none⟩) hX c8
  have hX1 := Nat.lt_of_lt_of_le hX hw.size
  have HB : Hid (Below w.heap.size w w1) := hw
  clear c1 c8 hw
  by_cases hq : (r : Int) = q
  · subst hq
    go_wp2_with fail
    go_ret
    simp
    exact HB.out
  · have hqd : decide ((r : Int) = q) = false := by simpa using hq
    have hqe : ((r : Int) == q) = false := by simpa using hq
    go_wp2_with fail
    go_ret
    simp [hq]
    exact HB.out
theorem goes_nil (w : World) (X : Nat) :
    Calls Tryz.prog 25 #[.pointer (some ⟨X, 0, none⟩), .pointer none] w fun e w' => e = .returned (.bool false) ∧ w' = w := by
  go_enter Tryz.func25, Tryz.ntmps25
  go_wp2_with fail
  go_ret
  simp
end Go.Proofs.YthnegagpmkblfaaGreatDoor.Pj
/- What the transaction answers: finish, heed, do. -/
namespace Go.Proofs.YthnegagpmkblfaaGreatDoor.Pj
open Go.ChangeShapes Go.WideShapes Go.ChangeAt Go.RowKit
open Tl (Wn wn0 nth numC Nl)
attribute [local go_sem ↓] Go.wp_at_zero Go.wp_at_succ

theorem set_pub (cf : Tl.Pc.Cf) (rv : Value) (n : Int) (code : ByteArray) (av : Value) (nr : Int) (tv : Value) (pub : Bool) (pl nx : Int) (sv rtv tlv : Value) (wt : Wn) (kv : Value) (rd : Int) (ev : Value) (ov : Bool) (er : Int) (u : Bool) : ((Tl.Pg.jobR cf rv n code av nr tv pub pl nx sv rtv tlv wt kv rd ev ov er).setIfInBounds 13 (.bool u)) = Tl.Pg.jobR cf rv n code av nr tv u pl nx sv rtv tlv wt kv rd ev ov er := by simp [Tl.Pg.jobR]
theorem set_wt (cf : Tl.Pc.Cf) (rv : Value) (n : Int) (code : ByteArray) (av : Value) (nr : Int) (tv : Value) (pub : Bool) (pl nx : Int) (sv rtv tlv : Value) (wt : Wn) (kv : Value) (rd : Int) (ev : Value) (ov : Bool) (er : Int) (u : Wn) : (((((Tl.Pg.jobR cf rv n code av nr tv pub pl nx sv rtv tlv wt kv rd ev ov er).setIfInBounds 19 (.int .i64 u.kind)).setIfInBounds 20 (.int .i64 u.cell)).setIfInBounds 21 (.int .i64 u.val)).setIfInBounds 22 (.int .i64 u.code)) = Tl.Pg.jobR cf rv n code av nr tv pub pl nx sv rtv tlv u kv rd ev ov er := by simp [Tl.Pg.jobR]
/-- Finish, where it wants nothing that comes. -/
theorem fin_idle {w : World} {base X : Nat} {j : Jb} {y : Jv} (h : JAt' w base X j y) (hk : j.wt.kind = 1 ∨ j.wt.kind = 5) (v : Int) :
    Calls Tryz.prog 49 #[.pointer (some ⟨X, 0, none⟩), .int .i64 v] w fun e w' => e = .returned (.tuple #[]) ∧ w' = w := by
  have c19 : w.cell? ⟨X, 19, none⟩ = some (.int .i64 j.wt.kind) := (cell_at h.raw 19).trans rfl
  have hX := heap_lt h.raw
  generalize j.wt.kind = z at *
  clear h
  rcases hk with rfl | rfl
  all_goals
    go_enter Tryz.func49, Tryz.ntmps49
    go_wp2_with fail
    go_end0
    simp
end Go.Proofs.YthnegagpmkblfaaGreatDoor.Pj
/- What the transaction answers: heed, do. -/
namespace Go.Proofs.YthnegagpmkblfaaGreatDoor.Pj
open Go.ChangeShapes Go.WideShapes Go.ChangeAt Go.RowKit
open Tl (Wn wn0 nth numC Nl)
attribute [local go_sem ↓] Go.wp_at_zero Go.wp_at_succ

def pubJ (j : Jb) : Jb := { j with pub := j.pub || decide (j.tx.phase = 5) }
/-- What lies behind the call of Phase: the job, the answer that was handed in, the answer's variable. -/
structure HW (w w1 : World) (base X : Nat) (j : Jb) (y : Jv) (k e v : Int) (g : Bool) : Prop where
  job : JAt' w1 base X j y
  arg : w1.heap[w.heap.size]? = some (.cells #[.int .i64 k, .int .i64 e, .int .i64 v, .bool g] 48 (0, 0))
  res : w1.heap[w.heap.size + 1]? = some (.cells #[.int .i64 0, .int .i64 0, .int .i64 0, .bool false] 48 (0, 0))
  kp : Keep [X] w w1
theorem an_cells {w : World} {B : Nat} {k e v : Int} {g : Bool} (h : w.heap[B]? = some (.cells #[.int .i64 k, .int .i64 e, .int .i64 v, .bool g] 48 (0, 0))) :
    w.cell? ⟨B, 0, none⟩ = some (.int .i64 k) ∧ w.cell? ⟨B, 1, none⟩ = some (.int .i64 e) ∧ w.cell? ⟨B, 2, none⟩ = some (.int .i64 v) ∧ w.cell? ⟨B, 3, none⟩ = some (.bool g) := ⟨(cell_at h 0).trans rfl, (cell_at h 1).trans rfl, (cell_at h 2).trans rfl, (cell_at h 3).trans rfl⟩
/-- Published or not is noted. -/
theorem HW.pub {w w1 : World} {base X : Nat} {j : Jb} {y : Jv} {k e v : Int} {g : Bool} (h : HW w w1 base X j y k e v g) (b : Bool) (hX : X < w.heap.size) : HW w (w1.setCell ⟨X, 13, none⟩ (.bool b)) base X { j with pub := b } y k e v g := by
  have r := heap_set h.job.raw 13 (.bool b)
  unfold jobC at r
  rw [set_pub] at r
  have kk : Keep [X] w1 (w1.setCell ⟨X, 13, none⟩ (.bool b)) := (Keep.refl [X] w1).setCell _ _ (Or.inl (by simp))
  exact ⟨h.job.put (j' := { j with pub := b }) r kk ⟨rfl, rfl, rfl, rfl, rfl, rfl, rfl, rfl, rfl⟩, (heap_set_other _ _ (by omega)).trans h.arg, (heap_set_other _ _ (by omega)).trans h.res, h.kp.trans kk (fun b hb => Or.inl hb)⟩
theorem HW.first {w w1 : World} {base X : Nat} {j : Jb} {y : Jv} {k e v : Int} {g : Bool} (h : JAt' w base X j y)
    (hb : Below ((w.alloc (.cells #[.int .i64 k, .int .i64 e, .int .i64 v, .bool g] 48)).alloc (.cells #[.int .i64 0, .int .i64 0, .int .i64 0, .bool false] 48)).heap.size ((w.alloc (.cells #[.int .i64 k, .int .i64 e, .int .i64 v, .bool g] 48)).alloc (.cells #[.int .i64 0, .int .i64 0, .int .i64 0, .bool false] 48)) w1) : HW w w1 base X j y k e v g := by
  have hb1 : Below w.heap.size w w1 := below_then (below_then (below_a1 _ _) (below_a1 _ _)) hb
  exact ⟨h.keep (Keep.of_below hb1 []) (by simp), Tl.row_next1 ⟨hb.os, hb.tape, hb.output, hb.size, hb.block⟩, Tl.row_next2 ⟨hb.os, hb.tape, hb.output, hb.size, hb.block⟩, Keep.of_below hb1 _⟩
abbrev fl (y : Jv) (X : Nat) : List Nat := (y.segs X).flatten
theorem mem_fl {y : Jv} {X q : Nat} : q ∈ fl y X ↔ ∃ a ∈ y.segs X, q ∈ a := by simp only [fl, List.mem_flatten]
set_option maxRecDepth 10000 in
/-- What was answered is handed on. -/
theorem heed_pass {w : World} {base X : Nat} {j : Jb} {y : Jv} (h : JAt' w base X j y) (hp : j.pub = false) (k e v : Int) (g : Bool) (h3 : k ≠ 3) (h4 : k ≠ 4) :
    Calls Tryz.prog 30 #[.pointer (some ⟨X, 0, none⟩), anV k e v g] w fun ee w' => ee = .returned (anV k e v g) ∧ JAt' w' base X (pubJ j) y ∧ Keep [X] w w' := by
  have HPH : Hid (∀ w', Below w.heap.size w w' → Calls Tryz.prog 26 #[.pointer (some ⟨y.T, 0, none⟩)] w' fun e w'' => e = .returned (.int .i64 j.tx.phase) ∧ Below w'.heap.size w' w'') := fun w' hb => phase_any (h.tx.below hb)
  have c12 : w.cell? ⟨X, 12, none⟩ = some (.pointer (some ⟨y.T, 0, none⟩)) := (cell_at h.raw 12).trans rfl
  have c13 : w.cell? ⟨X, 13, none⟩ = some (.bool false) := by rw [← hp]; exact (cell_at h.raw 13).trans rfl
  have hX := heap_lt h.raw
  have HJ : Hid (JAt' w base X j y) := h
  have HLT : Hid (∀ a ∈ y.segs X, ∀ q ∈ a, q < w.heap.size) := fun a ha q hq => (h.lt a ha q hq).2
  have k3 : (k == 3) = false := by simpa using h3
  have k4 : (k == 4) = false := by simpa using h4
  have HPJ : Hid (pubJ j = { j with pub := j.tx.phase == 5 }) := by unfold Hid pubJ; rw [hp]; rfl
  clear h h3 h4
  unfold anV
  go_enter Tryz.func30, Tryz.ntmps30
  go_wp2_with fail
  refine (HPH.out _ (below_then (below_a1 _ _) (below_a1 _ _))).mono ?_
  rintro ee w1 ⟨rfl, hb1⟩
  have hw := HW.first HJ.out hb1
  have HW1 : Hid (HW w w1 base X j y k e v g) := hw
  have d13 : w1.cell? ⟨X, 13, none⟩ = some (.bool false) := by rw [← hp]; exact (cell_at hw.job.raw 13).trans rfl
  have f13 := hw.job.fz 13
  obtain ⟨p0, p1, p2, p3⟩ := an_cells hw.arg
  obtain ⟨z0, z1, z2, z3⟩ := an_cells hw.res
  have fz := frozen_at hw.res
  have hX1 := heap_lt hw.job.raw
  have hl1 := heap_lt hw.res
  have n1 : X ≠ w.heap.size := by omega
  have n2 : X ≠ w.heap.size + 1 := by omega
  clear hb1 hw HPH c12 c13 HJ
  go_wp2_with fail
  have hz := HW1.out.pub (j.tx.phase == 5) hX
  refine ret_ans rfl rfl (Co.ansW_set rfl hz.res k e v g) rfl rfl ⟨rfl, ?_, ?_⟩
  · rw [HPJ.out]
    exact hz.job.keep (Co.keepWB k e v g) (fun a ha q hq => by have := HLT.out a ha q hq; simp; omega)
  · exact hz.kp.trans (Co.keepWB k e v g) (fun b hb => Or.inr (by simp at hb; omega))
set_option maxRecDepth 10000 in
set_option maxHeartbeats 2000000 in
/-- What was wanted is done. -/
theorem heed_done {w : World} {base X : Nat} {j j2 : Jb} {y : Jv} (h : JAt' w base X j y) (hp : j.pub = false) (e v : Int) (g : Bool)
    (HF : ∀ w1, JAt' w1 base X (pubJ j) y → w.heap.size ≤ w1.heap.size → Calls Tryz.prog 49 #[.pointer (some ⟨X, 0, none⟩), .int .i64 v] w1 fun ee w2 => ee = .returned (.tuple #[]) ∧ ∃ y', JAt' w2 base X j2 y' ∧ Next (fl y X) (fl y' X) w1 w2) :
    Calls Tryz.prog 30 #[.pointer (some ⟨X, 0, none⟩), anV 3 e v g] w fun ee w' => ee = .returned (anV (if j2.ov = true then 3 else 2) 0 0 g) ∧ ∃ y', JAt' w' base X j2 y' ∧ Next (fl y X) (fl y' X) w w' := by
  have HPH : Hid (∀ w', Below w.heap.size w w' → Calls Tryz.prog 26 #[.pointer (some ⟨y.T, 0, none⟩)] w' fun e w'' => e = .returned (.int .i64 j.tx.phase) ∧ Below w'.heap.size w' w'') := fun w' hb => phase_any (h.tx.below hb)
  have c12 : w.cell? ⟨X, 12, none⟩ = some (.pointer (some ⟨y.T, 0, none⟩)) := (cell_at h.raw 12).trans rfl
  have c13 : w.cell? ⟨X, 13, none⟩ = some (.bool false) := by rw [← hp]; exact (cell_at h.raw 13).trans rfl
  have hX := heap_lt h.raw
  have HJ : Hid (JAt' w base X j y) := h
  have HLT : Hid (∀ a ∈ y.segs X, ∀ q ∈ a, q < w.heap.size) := fun a ha q hq => (h.lt a ha q hq).2
  have HPJ : Hid (pubJ j = { j with pub := j.tx.phase == 5 }) := by unfold Hid pubJ; rw [hp]; rfl
  have HFF : Hid (∀ w1, JAt' w1 base X (pubJ j) y → w.heap.size ≤ w1.heap.size → Calls Tryz.prog 49 #[.pointer (some ⟨X, 0, none⟩), .int .i64 v] w1 fun ee w2 => ee = .returned (.tuple #[]) ∧ ∃ y', JAt' w2 base X j2 y' ∧ Next (fl y X) (fl y' X) w1 w2) := HF
  clear h HF
  obtain ⟨kk, hkk⟩ : ∃ kk : Int, kk = if j2.ov = true then 3 else 2 := ⟨_, rfl⟩
  rw [← hkk]
  have HKK : Hid (kk = if j2.ov = true then 3 else 2) := hkk
  clear hkk
  unfold anV
  go_enter Tryz.func30, Tryz.ntmps30
  go_wp2_with fail
  refine (HPH.out _ (below_then (below_a1 _ _) (below_a1 _ _))).mono ?_
  rintro ee w1 ⟨rfl, hb1⟩
  have hw := HW.first HJ.out hb1
  have HW1 : Hid (HW w w1 base X j y 3 e v g) := hw
  have d13 : w1.cell? ⟨X, 13, none⟩ = some (.bool false) := by rw [← hp]; exact (cell_at hw.job.raw 13).trans rfl
  have f13 := hw.job.fz 13
  obtain ⟨p0, p1, p2, p3⟩ := an_cells hw.arg
  obtain ⟨z0, z1, z2, z3⟩ := an_cells hw.res
  have fz := frozen_at hw.res
  have hX1 := heap_lt hw.job.raw
  have hl1 := heap_lt hw.res
  have n1 : X ≠ w.heap.size := by omega
  have n2 : X ≠ w.heap.size + 1 := by omega
  clear hb1 hw HPH c12 c13 HJ
  go_wp2_with fail
  have hz := HW1.out.pub (j.tx.phase == 5) hX
  rw [← HPJ.out] at hz
  have hsz : w.heap.size ≤ w1.heap.size := HW1.out.kp.size
  refine (HFF.out _ hz.job (by simpa using hsz)).mono ?_
  rintro ee w2 ⟨rfl, y', h2, hn⟩
  have hne : ∀ b, w.heap.size ≤ b → b ∉ fl y X := fun b hb hq => by
    obtain ⟨a, ha, hq⟩ := mem_fl.1 hq
    have := HLT.out a ha b hq
    omega
  have ha2 : w2.heap[w.heap.size]? = some (.cells #[.int .i64 3, .int .i64 e, .int .i64 v, .bool g] 48 (0, 0)) := (hn.1.block _ (heap_lt hz.arg) (hne _ (Nat.le_refl _))).trans hz.arg
  have hr2 : w2.heap[w.heap.size + 1]? = some (.cells #[.int .i64 0, .int .i64 0, .int .i64 0, .bool false] 48 (0, 0)) := (hn.1.block _ (heap_lt hz.res) (hne _ (by omega))).trans hz.res
  have HN : Hid (JAt' w2 base X j2 y' ∧ Next (fl y X) (fl y' X) w w2) := ⟨h2, hz.kp.mono (fun b hb => by simp at hb; subst hb; exact mem_fl.2 ⟨[b], by simp [Jv.segs], by simp⟩) |>.trans hn.1 (fun b hb => Or.inl hb), fun q hq => by
    rcases hn.2 q hq with h1 | h1
    · exact Or.inl h1
    · right; have : w.heap.size ≤ w1.heap.size := hsz; simp at h1; omega⟩
  have e26 : w2.cell? ⟨X, 26, none⟩ = some (.bool j2.ov) := (cell_at h2.raw 26).trans rfl
  have hX2 := heap_lt h2.raw
  obtain ⟨t0, t1, t2, t3⟩ := an_cells ha2
  obtain ⟨s0, s1, s2, s3⟩ := an_cells hr2
  have fs := frozen_at hr2
  have hl2 := heap_lt hr2
  have HR2 : Hid (w2.heap[w.heap.size + 1]? = some (.cells #[.int .i64 0, .int .i64 0, .int .i64 0, .bool false] 48 (0, 0))) := hr2
  have HQ : Hid (∀ q ∈ fl y' X, q ≠ w.heap.size + 1) := fun q hq e => by
    rcases hn.2 q hq with h1 | h1
    · exact hne q (by omega) h1
    · have := heap_lt hz.res; omega
  clear h2 hn hne ha2 hr2 hz p0 p1 p2 p3 z0 z1 z2 z3 fz d13 f13 HFF HLT
  cases hov : j2.ov
  · rw [hov] at e26
    go_wp2_with fail
    obtain ⟨q1, q2⟩ := HN.out
    have hkk : kk = 2 := by rw [HKK.out, hov]; rfl
    have w1a := Co.ansW_set rfl HR2.out 2 0 0 g
    have w1b := q1.keep (Co.keepWB (w := w2) (B := w.heap.size + 1) 2 0 0 g) (fun a ha q hq => by have := HQ.out q (mem_fl.2 ⟨a, ha, hq⟩); simpa using this)
    have w1c : Keep (fl y X) w (Co.laidW w2 (w.heap.size + 1) 2 0 0 g) := q2.1.trans (Co.keepWB (w := w2) (B := w.heap.size + 1) 2 0 0 g) (fun b hb => Or.inr (by simp at hb; omega))
    exact ret_ans rfl rfl w1a rfl rfl ⟨by rw [hkk], y', w1b, w1c, q2.2⟩
  · rw [hov] at e26
    go_wp2_with fail
    obtain ⟨q1, q2⟩ := HN.out
    have hkk : kk = 3 := by rw [HKK.out, hov]; rfl
    have w1a := Co.ansW_set rfl HR2.out 3 0 0 g
    have w1b := q1.keep (Co.keepWB (w := w2) (B := w.heap.size + 1) 3 0 0 g) (fun a ha q hq => by have := HQ.out q (mem_fl.2 ⟨a, ha, hq⟩); simpa using this)
    have w1c : Keep (fl y X) w (Co.laidW w2 (w.heap.size + 1) 3 0 0 g) := q2.1.trans (Co.keepWB (w := w2) (B := w.heap.size + 1) 3 0 0 g) (fun b hb => Or.inr (by simp at hb; omega))
    exact ret_ans rfl rfl w1a rfl rfl ⟨by rw [hkk], y', w1b, w1c, q2.2⟩
end Go.Proofs.YthnegagpmkblfaaGreatDoor.Pj
/- do: something is wanted of the transaction. -/
namespace Go.Proofs.YthnegagpmkblfaaGreatDoor.Pj
open Go.ChangeShapes Go.WideShapes Go.ChangeAt Go.RowKit
open Tl (Wn wn0 nth numC Nl)
attribute [local go_sem ↓] Go.wp_at_zero Go.wp_at_succ

theorem seg_set' {S : List (List Nat)} {B : List Nat} (h : S.Pairwise Dj) : ∀ (i : Nat), (∀ q ∈ B, q ∈ S.getD i [] ∨ ∀ a ∈ S, q ∉ a) → (S.set i B).Pairwise Dj := by
  induction h with
  | nil => intro i _; exact List.Pairwise.nil
  | @cons a l ha hp ih =>
    intro i hs
    cases i with
    | zero =>
      simp only [List.set_cons_zero]
      refine List.Pairwise.cons (fun x hx q hq hqx => ?_) hp
      rcases hs q hq with h1 | h1
      · exact ha x hx q (by simpa using h1) hqx
      · exact h1 x (List.mem_cons_of_mem _ hx) hqx
    | succ i =>
      simp only [List.set_cons_succ]
      refine List.Pairwise.cons (fun x hx q hq hqx => ?_) (ih i (fun q hq => by
        rcases hs q hq with h1 | h1
        · exact Or.inl (by simpa using h1)
        · exact Or.inr (fun a ha => h1 a (List.mem_cons_of_mem _ ha))))
      rcases List.mem_or_eq_of_mem_set hx with h1 | rfl
      · exact ha x h1 q hq hqx
      · rcases hs q hqx with h1 | h1
        · simp only [List.getD_cons_succ] at h1
          by_cases hl : i < l.length
          · rw [List.getD_eq_getElem?_getD, List.getElem?_eq_getElem hl] at h1
            exact ha _ (List.getElem_mem hl) q hq h1
          · rw [List.getD_eq_getElem?_getD, List.getElem?_eq_none (by omega)] at h1
            simp at h1
        · exact h1 a List.mem_cons_self hq
/-- The transaction becomes another; other blocks than the job's may change besides. -/
theorem JAt'.onTx {w w' : World} {base X : Nat} {j : Jb} {y : Jv} {K : List Nat} {x : Tx} {G : List Nat} (h : JAt' w base X j y) (k : Keep K w w') (hK : ∀ q ∈ K, q ∈ y.G ∨ q ∉ fl y X) (hx : TxAt w' base y.T x G) (hG : ∀ q ∈ G, q ∈ y.G ∨ q ∉ fl y X) : JAt' w' base X { j with tx := x } { y with G := G } := by
  have hm : ∀ n, n < 8 → ∀ q ∈ (y.segs X).getD n [], q ∉ K := by
    intro n hn q hq hk
    have hl : n < (y.segs X).length := by show n < 9; omega
    have hm : (y.segs X).getD n [] ∈ y.segs X := by
      rw [List.getD_eq_getElem?_getD, List.getElem?_eq_getElem hl]
      exact List.getElem_mem hl
    rcases hK q hk with h1 | h1
    · exact seg_dj h.dj (i := 8) (k := n) (by omega) q h1 hq
    · exact h1 (mem_fl.2 ⟨_, hm, hq⟩)
  refine ⟨(k.block X (heap_lt h.raw) (hm 0 (by decide) X (by simp [Jv.segs]))).trans h.raw, own_kp h.rg k (hm 1 (by decide)), own_kp h.ar k (hm 2 (by decide)), own_kp h.st k (hm 3 (by decide)), own_kp h.rt k (hm 4 (by decide)), own_kp h.tl k (hm 5 (by decide)), own_kp h.er k (hm 6 (by decide)), h.ak.keep k (hm 7 (by decide)), hx, seg_set' h.dj 8 (fun q hq => (hG q hq).imp id (fun h1 a ha h2 => h1 (mem_fl.2 ⟨a, ha, h2⟩))), h.bX⟩
/-- A job beside a memory, as their parts lie. -/
structure JW (w : World) (base : Nat) (p : Value) (c r : Nat) (L : List Ac) (F : List Nat) (X : Nat) (j : Jb) (y : Jv) : Prop where
  mem : MemAt w base p c r L F
  job : JAt' w base X j y
  out : ∀ q ∈ fl y X, q ∉ F
theorem JW.below {w w' : World} {base : Nat} {p : Value} {c r : Nat} {L : List Ac} {F : List Nat} {X : Nat} {j : Jb} {y : Jv} (h : JW w base p c r L F X j y) (k : Below w.heap.size w w') : JW w' base p c r L F X j y := ⟨h.mem.below k, h.job.keep (Keep.of_below k []) (by simp), h.out⟩
theorem JW.tm {w : World} {base : Nat} {p : Value} {c r : Nat} {L : List Ac} {F : List Nat} {X : Nat} {j : Jb} {y : Jv} (h : JW w base p c r L F X j y) : TM w base p c r L F y.T j.tx y.G := ⟨h.mem, h.job.tx, fun q hq => h.out q (mem_fl.2 ⟨y.G, by simp [Jv.segs], hq⟩)⟩
/-- The job changes, the memory does not. -/
theorem JW.onJob {w w' : World} {base : Nat} {p : Value} {c r : Nat} {L : List Ac} {F : List Nat} {X : Nat} {j j' : Jb} {y y' : Jv} (h : JW w base p c r L F X j y) (hj : JAt' w' base X j' y') (hn : Next (fl y X) (fl y' X) w w') : JW w' base p c r L F X j' y' := ⟨h.mem.keep hn.1 (fun b hb hg => h.out b hg hb), hj, fun q hq hF => by
  rcases hn.2 q hq with h1 | h1
  · exact h.out q h1 hF
  · have := (h.mem.lt q hF).2; omega⟩
/-- Behind a call of the transaction. -/
theorem JW.onTx {w w' : World} {base : Nat} {p : Value} {c r : Nat} {L L' : List Ac} {F F' : List Nat} {X : Nat} {j : Jb} {y : Jv} {x : Tx} {G : List Nat} (h : JW w base p c r L F X j y) (ht : TM w' base p c r L' F' y.T x G) (hn : Next (y.G ++ F) (G ++ F') w w') :
    JW w' base p c r L' F' X { j with tx := x } { y with G := G } ∧ Next (fl y X ++ F) (fl { y with G := G } X ++ F') w w' := by
  have hnew : ∀ q, w.heap.size ≤ q → q ∉ fl y X := fun q hq h1 => by
    obtain ⟨a, ha, h2⟩ := mem_fl.1 h1
    have := (h.job.lt a ha q h2).2
    omega
  have hF : ∀ q ∈ F, q ∉ fl y X := fun q hq h1 => h.out q h1 hq
  have hG : ∀ q ∈ G, q ∈ y.G ∨ q ∉ fl y X := fun q hq => by
    rcases hn.2 q (List.mem_append.2 (Or.inl hq)) with h1 | h1
    · rcases List.mem_append.1 h1 with h2 | h2
      · exact Or.inl h2
      · exact Or.inr (hF q h2)
    · exact Or.inr (hnew q h1)
  have hj := h.job.onTx hn.1 (fun q hq => (List.mem_append.1 hq).imp id (hF q)) ht.tx hG
  have hgf : ∀ q ∈ fl { y with G := G } X, q ∈ fl y X ∨ q ∈ G := fun q hq => by
    rw [fl, mem_segs] at hq ⊢
    simp only at hq
    rcases hq with h1 | h1 | h1 | h1 | h1 | h1 | h1 | h1 | h1 <;> simp [h1]
  have hgy : ∀ q ∈ y.G, q ∈ fl y X := fun q hq => mem_fl.2 ⟨y.G, by simp [Jv.segs], hq⟩
  refine ⟨⟨ht.mem, hj, fun q hq hF' => ?_⟩, hn.1.mono (fun q hq => ?_), fun q hq => ?_⟩
  · by_cases hqG : q ∈ G
    · exact ht.out q hqG hF'
    · have h1 := (hgf q hq).resolve_right hqG
      rcases hn.2 q (List.mem_append.2 (Or.inr hF')) with h2 | h2
      · rcases List.mem_append.1 h2 with h3 | h3
        · have h4 := (mem_segs q).1 hq
          simp only at h4
          have hd := fun (n : Nat) (hn : n ≠ 8) => seg_dj h.job.dj (i := 8) (k := n) (Ne.symm hn) q h3
          rcases h4 with h5 | h5 | h5 | h5 | h5 | h5 | h5 | h5 | h5
          · exact hd 0 (by decide) (by simp [Jv.segs, h5])
          · exact hd 1 (by decide) h5
          · exact hd 2 (by decide) h5
          · exact hd 3 (by decide) h5
          · exact hd 4 (by decide) h5
          · exact hd 5 (by decide) h5
          · exact hd 6 (by decide) h5
          · exact hd 7 (by decide) h5
          · exact hqG h5
        · exact hF q h3 h1
      · exact hnew q h2 h1
  · rcases List.mem_append.1 hq with h1 | h1
    · exact List.mem_append.2 (Or.inl (hgy q h1))
    · exact List.mem_append.2 (Or.inr h1)
  · have hq2 : q ∈ fl y X ∨ q ∈ G ++ F' := by
      rcases List.mem_append.1 hq with h1 | h1
      · exact (hgf q h1).imp id (fun h => List.mem_append.2 (Or.inl h))
      · exact Or.inr (List.mem_append.2 (Or.inr h1))
    rcases hq2 with h1 | h1
    · exact Or.inl (List.mem_append.2 (Or.inl h1))
    · rcases hn.2 q h1 with h2 | h2
      · rcases List.mem_append.1 h2 with h3 | h3
        · exact Or.inl (List.mem_append.2 (Or.inl (hgy q h3)))
        · exact Or.inl (List.mem_append.2 (Or.inr h3))
      · exact Or.inr h2
theorem wt_set {w : World} {base X : Nat} {j : Jb} {y : Jv} (h : JAt' w base X j y) (a : Wn) : JAt' ((((w.setCell ⟨X, 19, none⟩ (.int .i64 a.kind)).setCell ⟨X, 20, none⟩ (.int .i64 a.cell)).setCell ⟨X, 21, none⟩ (.int .i64 a.val)).setCell ⟨X, 22, none⟩ (.int .i64 a.code)) base X { j with wt := a } y ∧ Keep [X] w ((((w.setCell ⟨X, 19, none⟩ (.int .i64 a.kind)).setCell ⟨X, 20, none⟩ (.int .i64 a.cell)).setCell ⟨X, 21, none⟩ (.int .i64 a.val)).setCell ⟨X, 22, none⟩ (.int .i64 a.code)) := by
  have r := heap_set (heap_set (heap_set (heap_set h.raw 19 (.int .i64 a.kind)) 20 (.int .i64 a.cell)) 21 (.int .i64 a.val)) 22 (.int .i64 a.code)
  unfold jobC at r
  rw [set_wt] at r
  have k : Keep [X] w ((((w.setCell ⟨X, 19, none⟩ (.int .i64 a.kind)).setCell ⟨X, 20, none⟩ (.int .i64 a.cell)).setCell ⟨X, 21, none⟩ (.int .i64 a.val)).setCell ⟨X, 22, none⟩ (.int .i64 a.code)) := ((((Keep.refl [X] w).setCell _ _ (Or.inl (by simp))).setCell _ _ (Or.inl (by simp))).setCell _ _ (Or.inl (by simp))).setCell _ _ (Or.inl (by simp))
  exact ⟨h.put (j' := { j with wt := a }) r k ⟨rfl, rfl, rfl, rfl, rfl, rfl, rfl, rfl, rfl⟩, k⟩
end Go.Proofs.YthnegagpmkblfaaGreatDoor.Pj
/- do, walked. -/
namespace Go.Proofs.YthnegagpmkblfaaGreatDoor.Pj
open Go.ChangeShapes Go.WideShapes Go.ChangeAt Go.RowKit
open Tl (Wn wn0 nth numC Nl)
attribute [local go_sem ↓] Go.wp_at_zero Go.wp_at_succ

/-- The answer's variable stands. -/
theorem do_res {w W0 w1 w2 : World} {R : Nat} {o : Obj} {A B C D : List Nat} {F : List Nat} (h : W0.heap[R]? = some o) (k1 : Next (A ++ F) (B ++ D) W0 w1) (k2 : Next B C w1 w2) (hl : ∀ q ∈ A ++ F, q < w.heap.size) (hR : R < W0.heap.size) (hw : w.heap.size ≤ R) : w2.heap[R]? = some o := by
  have n1 : R ∉ A ++ F := fun hq => by have := hl R hq; omega
  have h1 : w1.heap[R]? = some o := (k1.1.block R hR n1).trans h
  have n2 : R ∉ B := fun hq => by
    rcases k1.2 R (List.mem_append.2 (Or.inl hq)) with h2 | h2
    · exact n1 h2
    · omega
  exact (k2.1.block R (heap_lt h1) n2).trans h1
theorem do_fin {w W0 w1 w2 w3 : World} {base : Nat} {p : Value} {c r : Nat} {L : List Ac} {F F1 : List Nat} {X R : Nat} {j1 j' : Jb} {y y1 y' : Jv} (hK0 : Keep [X] w W0) (k1 : Next (fl y X ++ F) (fl y1 X ++ F1) W0 w1) (q1 : JW w1 base p c r L F1 X j1 y1) (q2 : JAt' w2 base X j' y') (k2 : Next (fl y1 X) (fl y' X) w1 w2) (hl : ∀ q ∈ fl y X ++ F, q < w.heap.size) (hR : R < W0.heap.size) (hw : w.heap.size ≤ R) (hk : Keep [R] w2 w3) :
    JW w3 base p c r L F1 X j' y' ∧ Next (fl y X ++ F) (fl y' X ++ F1) w w3 := by
  have s0 := hK0.size
  have s1 := k1.1.size
  have n2 : R ∉ fl y1 X ++ F1 := fun hq => by
    rcases k1.2 R hq with h2 | h2
    · have := hl R h2; omega
    · omega
  have n3 : R ∉ fl y' X := fun hq => by
    rcases k2.2 R hq with h2 | h2
    · exact n2 (List.mem_append.2 (Or.inl h2))
    · omega
  have hj := q1.onJob q2 k2
  have hXf : X ∈ fl y X := mem_fl.2 ⟨[X], by simp [Jv.segs], by simp⟩
  refine ⟨⟨hj.mem.keep hk (fun b hb hg => ?_), hj.job.keep hk (fun a ha q hq hg => ?_), hj.out⟩, ?_, fun q hq => ?_⟩
  · simp at hg; subst hg; exact n2 (List.mem_append.2 (Or.inr hb))
  · simp at hg; subst hg; exact n3 (mem_fl.2 ⟨a, ha, hq⟩)
  · have a1 : Keep (fl y X ++ F) w W0 := hK0.mono (fun b hb => by simp at hb; subst hb; exact List.mem_append.2 (Or.inl hXf))
    have a2 := a1.trans k1.1 (fun b hb => Or.inl hb)
    have a3 := a2.trans k2.1 (fun b hb => by
      rcases k1.2 b (List.mem_append.2 (Or.inl hb)) with h2 | h2
      · exact Or.inl h2
      · right; omega)
    exact a3.trans hk (fun b hb => Or.inr (by simp at hb; omega))
  · have h1 : q ∈ fl y1 X ++ F1 ∨ w1.heap.size ≤ q := by
      rcases List.mem_append.1 hq with h2 | h2
      · exact (k2.2 q h2).imp (fun h => List.mem_append.2 (Or.inl h)) id
      · exact Or.inl (List.mem_append.2 (Or.inr h2))
    rcases h1 with h2 | h2
    · exact (k1.2 q h2).imp id (fun h => by omega)
    · right; omega
def wnV (a : Wn) : Value := .agg #[.int .i64 a.kind, .int .i64 a.cell, .int .i64 a.val, .int .i64 a.code]
set_option maxRecDepth 10000 in
set_option maxHeartbeats 2000000 in
/-- Something is wanted: whatever heed makes of what the transaction answers. -/
theorem do_run {w : World} {base : Nat} {p : Value} {c r : Nat} {L : List Ac} {F : List Nat} {X : Nat} {j j' : Jb} {y : Jv} (h : JW w base p c r L F X j y) (hb : base ≤ w.heap.size) (hL : L.length < 3298534883328) (hE : j.tx.ev.length + 1 < 1073741824) (hx : XOk j.tx) (hd : Wd L) (hc : c ≤ 1024) (a : Wn) (t : Int) (k' e' v' : Int) (g' : Bool)
    (HH : ∀ w1 G, JAt' w1 base X { j with wt := a, tx := (doX c r j.tx L t (waOf a)).x } { y with G := G } → base ≤ w1.heap.size → Calls Tryz.prog 30 #[.pointer (some ⟨X, 0, none⟩), anV (doX c r j.tx L t (waOf a)).k (doX c r j.tx L t (waOf a)).e (doX c r j.tx L t (waOf a)).v (doX c r j.tx L t (waOf a)).y] w1 fun e w2 => e = .returned (anV k' e' v' g') ∧ ∃ y', JAt' w2 base X j' y' ∧ Next (fl { y with G := G } X) (fl y' X) w1 w2) :
    Calls Tryz.prog 27 #[.pointer (some ⟨X, 0, none⟩), p, .int .i64 t, wnV a] w fun e w' => e = .returned (anV k' e' v' g') ∧ ∃ y' F', JW w' base p c r (doX c r j.tx L t (waOf a)).L F' X j' y' ∧ Next (fl y X ++ F) (fl y' X ++ F') w w' := by
  have HJ : Hid (JW w base p c r L F X j y) := h
  have HD : Hid (∀ w1, JW w1 base p c r L F X { j with wt := a } y → base ≤ w1.heap.size → Calls Tryz.prog 43 #[.pointer (some ⟨y.T, 0, none⟩), p, .int .i64 t, waV (waOf a)] w1 fun e w' => e = .returned (anV (doX c r j.tx L t (waOf a)).k (doX c r j.tx L t (waOf a)).e (doX c r j.tx L t (waOf a)).v (doX c r j.tx L t (waOf a)).y) ∧ ∃ F' G', TM w' base p c r (doX c r j.tx L t (waOf a)).L F' y.T (doX c r j.tx L t (waOf a)).x G' ∧ Next (y.G ++ F) (G' ++ F') w1 w') := fun w1 h1 hb1 => do_any h1.tm hb1 hL hE hx hd hc (waOf a) t
  have HHH : Hid (∀ w1 G, JAt' w1 base X { j with wt := a, tx := (doX c r j.tx L t (waOf a)).x } { y with G := G } → base ≤ w1.heap.size → Calls Tryz.prog 30 #[.pointer (some ⟨X, 0, none⟩), anV (doX c r j.tx L t (waOf a)).k (doX c r j.tx L t (waOf a)).e (doX c r j.tx L t (waOf a)).v (doX c r j.tx L t (waOf a)).y] w1 fun e w2 => e = .returned (anV k' e' v' g') ∧ ∃ y', JAt' w2 base X j' y' ∧ Next (fl { y with G := G } X) (fl y' X) w1 w2) := HH
  generalize doX c r j.tx L t (waOf a) = o at *
  obtain ⟨ox, oL, ok, oe, ov, oy⟩ := o
  dsimp only at *
  have hX := heap_lt h.job.raw
  have c12 : w.cell? ⟨X, 12, none⟩ = some (.pointer (some ⟨y.T, 0, none⟩)) := (cell_at h.job.raw 12).trans rfl
  have c19 : w.cell? ⟨X, 19, none⟩ = some (.int .i64 j.wt.kind) := (cell_at h.job.raw 19).trans rfl
  have c20 : w.cell? ⟨X, 20, none⟩ = some (.int .i64 j.wt.cell) := (cell_at h.job.raw 20).trans rfl
  have c21 : w.cell? ⟨X, 21, none⟩ = some (.int .i64 j.wt.val) := (cell_at h.job.raw 21).trans rfl
  have c22 : w.cell? ⟨X, 22, none⟩ = some (.int .i64 j.wt.code) := (cell_at h.job.raw 22).trans rfl
  have fX := frozen_at h.job.raw
  obtain ⟨M, rfl⟩ : ∃ M, p = .pointer (some ⟨M, 0, none⟩) := by
    obtain ⟨M, _, _, _, _, hm⟩ := h.mem
    exact ⟨M, hm.p⟩
  clear h HH hL hE hx hd hc
  unfold wnV waV waOf anV at *
  obtain ⟨ak, al, av, ac⟩ := a
  dsimp only at *
  go_enter Tryz.func27, Tryz.ntmps27
  go_wp2_with fail
  obtain ⟨hw1, hw2⟩ := wt_set HJ.out.job ⟨ak, al, av, ac⟩
  dsimp only at hw1 hw2
  have hs4 : ((((w.setCell ⟨X, 19, none⟩ (.int .i64 ak)).setCell ⟨X, 20, none⟩ (.int .i64 al)).setCell ⟨X, 21, none⟩ (.int .i64 av)).setCell ⟨X, 22, none⟩ (.int .i64 ac)).heap.size = w.heap.size := by simp
  have hXF : [X] ⊆ fl y X := fun q hq => mem_fl.2 ⟨[X], by simp [Jv.segs], hq⟩
  have hjw := HJ.out.onJob hw1 ⟨hw2.mono hXF, fun q hq => Or.inl hq⟩
  generalize (((w.setCell ⟨X, 19, none⟩ (.int .i64 ak)).setCell ⟨X, 20, none⟩ (.int .i64 al)).setCell ⟨X, 21, none⟩ (.int .i64 av)).setCell ⟨X, 22, none⟩ (.int .i64 ac) = w4 at *
  have hjv := hjw.below (below_then (below_a1 w4 (.cells #[.int .i64 ak, .int .i64 al, .int .i64 av, .int .i64 ac] 77)) (below_a1 _ (.cells #[.int .i64 0, .int .i64 0, .int .i64 0, .bool false] 48)))
  have r0 : ((w4.alloc (.cells #[.int .i64 ak, .int .i64 al, .int .i64 av, .int .i64 ac] 77)).alloc (.cells #[.int .i64 0, .int .i64 0, .int .i64 0, .bool false] 48)).heap[w.heap.size]? = some (.cells #[.int .i64 ak, .int .i64 al, .int .i64 av, .int .i64 ac] 77 (0, 0)) := by
    rw [← hs4]
    exact Tl.row_next1 (Below.refl _ _)
  have r1 : ((w4.alloc (.cells #[.int .i64 ak, .int .i64 al, .int .i64 av, .int .i64 ac] 77)).alloc (.cells #[.int .i64 0, .int .i64 0, .int .i64 0, .bool false] 48)).heap[w.heap.size + 1]? = some (.cells #[.int .i64 0, .int .i64 0, .int .i64 0, .bool false] 48 (0, 0)) := by
    rw [← hs4]
    exact Tl.row_next2 (Below.refl _ _)
  have hk0 : Keep [X] w ((w4.alloc (.cells #[.int .i64 ak, .int .i64 al, .int .i64 av, .int .i64 ac] 77)).alloc (.cells #[.int .i64 0, .int .i64 0, .int .i64 0, .bool false] 48)) := (hw2.alloc _).alloc _
  generalize (w4.alloc (.cells #[.int .i64 ak, .int .i64 al, .int .i64 av, .int .i64 ac] 77)).alloc (.cells #[.int .i64 0, .int .i64 0, .int .i64 0, .bool false] 48) = W0 at *
  have HR1 : Hid (W0.heap[w.heap.size + 1]? = some (.cells #[.int .i64 0, .int .i64 0, .int .i64 0, .bool false] 48 (0, 0))) := r1
  have HK0 : Hid (Keep [X] w W0) := hk0
  have HLT : Hid (∀ q ∈ fl y X ++ F, q < w.heap.size) := fun q hq => by
    rcases List.mem_append.1 hq with h1 | h1
    · obtain ⟨s, hs, h2⟩ := mem_fl.1 h1
      exact (HJ.out.job.lt s hs q h2).2
    · exact (HJ.out.mem.lt q h1).2
  have hXw : X < w.heap.size := hX
  have HDW : Hid (∀ w1, Below W0.heap.size W0 w1 → Calls Tryz.prog 43 #[.pointer (some ⟨y.T, 0, none⟩), .pointer (some ⟨M, 0, none⟩), .int .i64 t, .agg #[.int .i64 ak, .int .i64 al, .int .i64 av, .int .i64 ac]] w1 fun e w' => e = .returned (.agg #[.int .i64 ok, .int .i64 oe, .int .i64 ov, .bool oy]) ∧ ∃ F' G', JW w' base (.pointer (some ⟨M, 0, none⟩)) c r oL F' X { { j with wt := ⟨ak, al, av, ac⟩ } with tx := ox } { y with G := G' } ∧ Next (fl y X ++ F) (fl { y with G := G' } X ++ F') W0 w') := fun w1 hb1 => by
    refine (HD.out w1 (hjv.below hb1) (Nat.le_trans hb (Nat.le_trans HK0.out.size hb1.size))).mono ?_
    rintro e w' ⟨rfl, F', G', q1, q2⟩
    obtain ⟨q3, q4⟩ := (hjv.below hb1).onTx q1 q2
    exact ⟨rfl, F', G', q3, (Keep.of_below hb1 _).trans q4.1 (fun b hb => Or.inl hb), fun q hq => (q4.2 q hq).imp id (fun h => Nat.le_trans hb1.size h)⟩
  have d12 : W0.cell? ⟨X, 12, none⟩ = some (.pointer (some ⟨y.T, 0, none⟩)) := (cell_at hjv.job.raw 12).trans rfl
  have e0 : W0.cell? ⟨w.heap.size, 0, none⟩ = some (.int .i64 ak) := (cell_at r0 0).trans rfl
  have e1 : W0.cell? ⟨w.heap.size, 1, none⟩ = some (.int .i64 al) := (cell_at r0 1).trans rfl
  have e2 : W0.cell? ⟨w.heap.size, 2, none⟩ = some (.int .i64 av) := (cell_at r0 2).trans rfl
  have e3 : W0.cell? ⟨w.heap.size, 3, none⟩ = some (.int .i64 ac) := (cell_at r0 3).trans rfl
  have hX0 := heap_lt hjv.job.raw
  have hB0 := heap_lt r1
  have hbb : base ≤ W0.heap.size := Nat.le_trans hb HK0.out.size
  clear hw1 hw2 hjw hjv hs4 hXF r0 r1 hk0 c12 c19 c20 c21 c22 fX HD HJ hX
  go_region_with (first
    | (go_at_call 43; refine (HDW.out _ (by first | exact Below.refl _ _ | exact (Below.refl _ _).drew | exact (Below.refl _ _).drew.drew)).mono ?_; rintro e w1 ⟨rfl, F1, G1, q1, k1⟩)
    | (go_at_call 30; refine (HHH.out _ _ q1.job (Nat.le_trans hbb k1.1.size)).mono ?_; rintro e w2 ⟨rfl, y', q2, k2⟩; have hr2 : w2.heap[w.heap.size + 1]? = some (.cells #[.int .i64 0, .int .i64 0, .int .i64 0, .bool false] 48 (0, 0)) := do_res HR1.out k1 k2 HLT.out hB0 (Nat.le_succ _); obtain ⟨s0, s1, s2, s3⟩ := an_cells hr2; have fs := frozen_at hr2; have hl2 := heap_lt hr2))
  all_goals
    have HFN : Hid (JW (Co.laidW w2 (w.heap.size + 1) k' e' v' g') base (.pointer (some ⟨M, 0, none⟩)) c r oL F1 X j' y' ∧ Next (fl y X ++ F) (fl y' X ++ F1) w (Co.laidW w2 (w.heap.size + 1) k' e' v' g')) := do_fin HK0.out k1 q1 q2 k2 HLT.out hB0 (Nat.le_succ _) (Co.keepWB k' e' v' g')
    have HR2 : Hid (w2.heap[w.heap.size + 1]? = some (.cells #[.int .i64 0, .int .i64 0, .int .i64 0, .bool false] 48 (0, 0))) := hr2
    clear hr2 q1 q2 k1 k2 HDW HHH
    go_wp2_with fail
    obtain ⟨z1, z2⟩ := HFN.out
    exact ret_ans rfl rfl (Co.ansW_set rfl HR2.out k' e' v' g') rfl rfl ⟨rfl, y', F1, z1, z2⟩
end Go.Proofs.YthnegagpmkblfaaGreatDoor.Pj
/- Step: where nothing is done, and where the transaction is not begun. -/
namespace Go.Proofs.YthnegagpmkblfaaGreatDoor.Pj
open Go.ChangeShapes Go.WideShapes Go.ChangeAt Go.RowKit
open Tl (Wn wn0 nth numC Nl)
attribute [local go_sem ↓] Go.wp_at_zero Go.wp_at_succ

theorem step_nil (w : World) (p : Value) (t : Int) : Calls Tryz.prog 13 #[.pointer none, p, .int .i64 t] w fun e w' => e = .returned (anV 0 0 0 false) ∧ Below w.heap.size w w' := by
  unfold anV
  go_enter Tryz.func13, Tryz.ntmps13
  go_wp2_with fail
  exact ret_ans rfl rfl (heap_alloc_new _ _) rfl rfl ⟨rfl, below_a1 _ _⟩
/-- A memory over which it can't go on. -/
theorem step_off {w : World} {base X : Nat} {j : Jb} {y : Jv} (h : JAt' w base X j y) (p : Value) (t : Int) (HG : ∀ w', Below w.heap.size w w' → Calls Tryz.prog 25 #[.pointer (some ⟨X, 0, none⟩), p] w' fun e w'' => e = .returned (.bool false) ∧ Below w'.heap.size w' w'') : Calls Tryz.prog 13 #[.pointer (some ⟨X, 0, none⟩), p, .int .i64 t] w fun e w' => e = .returned (anV 0 0 0 false) ∧ Below w.heap.size w w' := by
  have HGG : Hid (∀ w', Below w.heap.size w w' → Calls Tryz.prog 25 #[.pointer (some ⟨X, 0, none⟩), p] w' fun e w'' => e = .returned (.bool false) ∧ Below w'.heap.size w' w'') := HG
  have c26 : w.cell? ⟨X, 26, none⟩ = some (.bool j.ov) := (cell_at h.raw 26).trans rfl
  have hX := heap_lt h.raw
  clear h HG
  unfold anV
  cases hov : j.ov
  · rw [hov] at c26
    go_enter Tryz.func13, Tryz.ntmps13
    go_wp2_with fail
    refine (HGG.out _ (below_a1 _ _)).mono ?_
    rintro e w1 ⟨rfl, hb1⟩
    have hr := Tl.row_next (w := w) ⟨hb1.os, hb1.tape, hb1.output, hb1.size, hb1.block⟩
    obtain ⟨s0, s1, s2, s3⟩ := an_cells hr
    have fs := frozen_at hr
    have hl := heap_lt hr
    have HR : Hid (w1.heap[w.heap.size]? = some (.cells #[.int .i64 0, .int .i64 0, .int .i64 0, .bool false] 48 (0, 0))) := hr
    have HB : Hid (Below w.heap.size w w1) := below_then (below_a1 _ _) hb1
    clear hb1 hr
    go_wp2_with fail
    exact ret_ans rfl rfl (Co.ansW_set rfl HR.out 0 0 0 false) rfl rfl ⟨rfl, Co.belowW HB.out (Nat.le_refl _) 0 0 0 false⟩
  · rw [hov] at c26
    go_enter Tryz.func13, Tryz.ntmps13
    go_wp2_with fail
    exact ret_ans rfl rfl (heap_alloc_new _ _) rfl rfl ⟨rfl, below_a1 _ _⟩
theorem JW.other {w w' : World} {base : Nat} {p : Value} {c r : Nat} {L : List Ac} {F : List Nat} {X R : Nat} {j : Jb} {y : Jv} (h : JW w base p c r L F X j y) (k : Keep [R] w w') (hR : R ∉ fl y X ++ F) : JW w' base p c r L F X j y := ⟨h.mem.keep k (fun b hb hg => by simp at hg; subst hg; exact hR (List.mem_append.2 (Or.inr hb))), h.job.keep k (fun a ha q hq hg => by simp at hg; subst hg; exact hR (List.mem_append.2 (Or.inl (mem_fl.2 ⟨a, ha, hq⟩)))), h.out⟩
theorem JW.lt {w : World} {base : Nat} {p : Value} {c r : Nat} {L : List Ac} {F : List Nat} {X : Nat} {j : Jb} {y : Jv} (h : JW w base p c r L F X j y) : ∀ q ∈ fl y X ++ F, q < w.heap.size := fun q hq => by
  rcases List.mem_append.1 hq with h1 | h1
  · obtain ⟨s, hs, h2⟩ := mem_fl.1 h1
    exact (h.job.lt s hs q h2).2
  · exact (h.mem.lt q h1).2
set_option maxRecDepth 10000 in
/-- The transaction is not begun: whatever do makes of it. -/
theorem step_begin {w : World} {base : Nat} {p : Value} {c r : Nat} {L L' : List Ac} {F : List Nat} {X : Nat} {j j' : Jb} {y : Jv} (h : JW w base p c r L F X j y) (ho : j.ov = false) (hg : overV j c r = true) (hph : j.tx.phase = 0) (t k' e' v' : Int) (g' : Bool)
    (HD : ∀ w1, JW w1 base p c r L F X j y → w.heap.size ≤ w1.heap.size → Calls Tryz.prog 27 #[.pointer (some ⟨X, 0, none⟩), p, .int .i64 t, .agg #[.int .i64 1, .int .i64 0, .int .i64 0, .int .i64 0]] w1 fun e w' => e = .returned (anV k' e' v' g') ∧ ∃ y' F', JW w' base p c r L' F' X j' y' ∧ Next (fl y X ++ F) (fl y' X ++ F') w1 w') :
    Calls Tryz.prog 13 #[.pointer (some ⟨X, 0, none⟩), p, .int .i64 t] w fun e w' => e = .returned (anV k' e' v' g') ∧ ∃ y' F', JW w' base p c r L' F' X j' y' ∧ Next (fl y X ++ F) (fl y' X ++ F') w w' := by
  have HG : Hid (∀ w', Below w.heap.size w w' → Calls Tryz.prog 25 #[.pointer (some ⟨X, 0, none⟩), p] w' fun e w'' => e = .returned (.bool true) ∧ Below w'.heap.size w' w'') := fun w' hb => by
    have := goes_any (h.below hb).job (h.below hb).mem
    rw [hg] at this
    exact this
  have HP : Hid (∀ w', Below w.heap.size w w' → Calls Tryz.prog 26 #[.pointer (some ⟨y.T, 0, none⟩)] w' fun e w'' => e = .returned (.int .i64 0) ∧ Below w'.heap.size w' w'') := fun w' hb => by
    have := phase_any (h.below hb).job.tx
    rw [hph] at this
    exact this
  have HDD : Hid (∀ w1, JW w1 base p c r L F X j y → w.heap.size ≤ w1.heap.size → Calls Tryz.prog 27 #[.pointer (some ⟨X, 0, none⟩), p, .int .i64 t, .agg #[.int .i64 1, .int .i64 0, .int .i64 0, .int .i64 0]] w1 fun e w' => e = .returned (anV k' e' v' g') ∧ ∃ y' F', JW w' base p c r L' F' X j' y' ∧ Next (fl y X ++ F) (fl y' X ++ F') w1 w') := HD
  have HJ : Hid (JW w base p c r L F X j y) := h
  have c26 : w.cell? ⟨X, 26, none⟩ = some (.bool false) := by rw [← ho]; exact (cell_at h.job.raw 26).trans rfl
  have hX := heap_lt h.job.raw
  have HLT : Hid (∀ q ∈ fl y X ++ F, q < w.heap.size) := h.lt
  obtain ⟨M, rfl⟩ : ∃ M, p = .pointer (some ⟨M, 0, none⟩) := by
    obtain ⟨M, _, _, _, _, hm⟩ := h.mem
    exact ⟨M, hm.p⟩
  clear h HD ho hg hph
  unfold anV at *
  go_enter Tryz.func13, Tryz.ntmps13
  go_wp2_with fail
  refine (HG.out _ (below_a1 _ _)).mono ?_
  rintro e w1 ⟨rfl, hb1⟩
  have hr := Tl.row_next (w := w) ⟨hb1.os, hb1.tape, hb1.output, hb1.size, hb1.block⟩
  have HR : Hid (w1.heap[w.heap.size]? = some (.cells #[.int .i64 0, .int .i64 0, .int .i64 0, .bool false] 48 (0, 0))) := hr
  have hB : Below w.heap.size w w1 := below_then (below_a1 _ _) hb1
  have HB : Hid (Below w.heap.size w w1) := hB
  have c12 : w1.cell? ⟨X, 12, none⟩ = some (.pointer (some ⟨y.T, 0, none⟩)) := (cell_at (HJ.out.below hB).job.raw 12).trans rfl
  have hX1 := Nat.lt_of_lt_of_le hX hB.size
  have hl1 := heap_lt hr
  clear hb1 hB HG hr c26
  go_wp2_with fail
  refine (HP.out _ HB.out).mono ?_
  rintro e w2 ⟨rfl, hb2⟩
  have HR2 : Hid (w2.heap[w.heap.size]? = some (.cells #[.int .i64 0, .int .i64 0, .int .i64 0, .bool false] 48 (0, 0))) := row_on HR.out hb2
  have HB2 : Hid (Below w.heap.size w w2) := below_then HB.out hb2
  clear hb2 HP HR
  go_wp2_with fail
  refine (HDD.out _ (HJ.out.below HB2.out) HB2.out.size).mono ?_
  rintro e w3 ⟨rfl, y', F', q1, k1⟩
  have hne : w.heap.size ∉ fl y X ++ F := fun hq => by have := HLT.out _ hq; omega
  have hl2 := heap_lt HR2.out
  have hr3 : w3.heap[w.heap.size]? = some (.cells #[.int .i64 0, .int .i64 0, .int .i64 0, .bool false] 48 (0, 0)) := (k1.1.block _ hl2 hne).trans HR2.out
  have hne3 : w.heap.size ∉ fl y' X ++ F' := fun hq => by
    rcases k1.2 _ hq with h1 | h1
    · exact hne h1
    · omega
  have HFN : Hid (JW (Co.laidW w3 w.heap.size k' e' v' g') base (.pointer (some ⟨M, 0, none⟩)) c r L' F' X j' y' ∧ Next (fl y X ++ F) (fl y' X ++ F') w (Co.laidW w3 w.heap.size k' e' v' g')) := ⟨q1.other (Co.keepWB k' e' v' g') hne3, ((Keep.of_below HB2.out _).trans k1.1 (fun b hb => Or.inl hb)).trans (Co.keepWB k' e' v' g') (fun b hb => Or.inr (by simp at hb; omega)), fun q hq => (k1.2 q hq).imp id (fun h => Nat.le_trans HB2.out.size h)⟩
  have HR3 : Hid (w3.heap[w.heap.size]? = some (.cells #[.int .i64 0, .int .i64 0, .int .i64 0, .bool false] 48 (0, 0))) := hr3
  obtain ⟨s0, s1, s2, s3⟩ := an_cells hr3
  have fs := frozen_at hr3
  have hl3 := heap_lt hr3
  clear hr3 q1 k1 hne hne3 HDD HLT
  go_wp2_with fail
  obtain ⟨z1, z2⟩ := HFN.out
  exact ret_ans rfl rfl (Co.ansW_set rfl HR3.out k' e' v' g') rfl rfl ⟨rfl, y', F', z1, z2⟩
end Go.Proofs.YthnegagpmkblfaaGreatDoor.Pj
/- What a nil job tells; Try. -/
namespace Go.Proofs.YthnegagpmkblfaaGreatDoor.Pj
open Go.ChangeShapes Go.WideShapes Go.ChangeAt Go.RowKit
attribute [local go_sem ↓] Go.wp_at_zero Go.wp_at_succ

theorem try_nil (w : World) : Calls Tryz.prog 15 #[.pointer none] w fun e w' => e = .returned (.tuple #[.int .i64 0, .bool false]) ∧ w' = w := by
  go_enter Tryz.func15, Tryz.ntmps15
  go_wp2_with fail
  go_ret2
  simp
theorem stack_nil (w : World) : Calls Tryz.prog 16 #[.pointer none] w fun e w' => e = .returned (.slice none 0 0) ∧ w' = w := by
  go_enter Tryz.func16, Tryz.ntmps16
  go_wp2_with fail
  go_ret
  simp
theorem writes_nil (w : World) : Calls Tryz.prog 17 #[.pointer none] w fun e w' => e = .returned (.slice none 0 0) ∧ w' = w := by
  go_enter Tryz.func17, Tryz.ntmps17
  go_wp2_with fail
  go_ret
  simp
theorem told_nil (w : World) (k : Int) : Calls Tryz.prog 18 #[.pointer none, .int .i64 k] w fun e w' => e = .returned (.slice none 0 0) ∧ w' = w := by
  go_enter Tryz.func18, Tryz.ntmps18
  go_wp2_with fail
  go_ret
  simp
theorem ret_o2 {fn : Func} {p q : Tmp} {R : Ending → World → Prop} {a : Act} {w : World} {g : Nat} {cs : Array Value} (h : fn.results = #[.cell p 27, .tmp q]) (hp : a.tmps.getD p undef = .pointer (some ⟨g, 0, none⟩))
    (hg : w.heap[g]? = some (.cells cs 27 (0, 0))) (hz : cs.size = 3) (hd : a.defers = []) (hR : R (.returned (.tuple #[.agg cs, a.tmps.getD q undef])) w) : bodyPost Tryz.prog fn R .ret a w := by
  refine bodyPost_ret (v := .tuple #[.agg cs, a.tmps.getD q undef]) ?_ hd hR
  have hp' : a.tmps[p]?.getD undef = .pointer (some ⟨g, 0, none⟩) := by simpa using hp
  have hl := run_loadVar_row (P := Tryz.prog) w g 27 27 cs (0, 0) _ hg Tryz.underlying27 rfl (by rw [hz]; kernel_rfl)
  simp [results, h, hp', asAddr, hl]
theorem outcome_nil (w : World) : Calls Tryz.prog 14 #[.pointer none] w fun e w' => e = .returned (.tuple #[.agg #[.int .i64 0, .int .i64 0, .slice none 0 0], .bool false]) ∧ Below w.heap.size w w' := by
  go_enter Tryz.func14, Tryz.ntmps14
  go_wp2_with fail
  exact ret_o2 rfl rfl (heap_alloc_new _ _) rfl rfl ⟨rfl, below_a1 _ _⟩
theorem try_any {w : World} {base X : Nat} {j : Jb} {y : Jv} (h : JAt' w base X j y) : Calls Tryz.prog 15 #[.pointer (some ⟨X, 0, none⟩)] w fun e w' => e = .returned (.tuple #[.int .i64 j.nr, .bool j.pub]) ∧ Below w.heap.size w w' := by
  have c11 : w.cell? ⟨X, 11, none⟩ = some (.int .i64 j.nr) := (cell_at h.raw 11).trans rfl
  have c13 : w.cell? ⟨X, 13, none⟩ = some (.bool j.pub) := (cell_at h.raw 13).trans rfl
  have hX := heap_lt h.raw
  clear h
  go_enter Tryz.func15, Tryz.ntmps15
  go_wp2_with fail
  go_quiet (fail)
  go_wp2_with fail
  go_ret2
  exact ⟨rfl, below_drawn (Below.refl _ _) _⟩
end Go.Proofs.YthnegagpmkblfaaGreatDoor.Pj
/- A new job's first step over a new memory. -/
namespace Go.Proofs.YthnegagpmkblfaaGreatDoor.Pj
open Go.ChangeShapes Go.WideShapes Go.ChangeAt Go.RowKit
open Tl (Wn wn0 nth numC Nl)

/-- What the first step of a new job answers: it has made an access. -/
theorem first_ans (c : Nat) (cf : Tl.Pc.Cf) (t : Int) (L : List Ac) :
    (doX c cf.ring.toNat (newTx cf) L t ⟨1, 0, 0, 0⟩).y = true ∧ (doX c cf.ring.toNat (newTx cf) L t ⟨1, 0, 0, 0⟩).k ≠ 4 ∧ (doX c cf.ring.toNat (newTx cf) L t ⟨1, 0, 0, 0⟩).k ≠ 0 := by
  have ht : takesX c cf.ring.toNat (newTx cf) ⟨1, 0, 0, 0⟩ = true := by
    simp [takesX, newTx, newX, Tx.phase]
  unfold doX
  rw [if_pos ht, if_pos rfl]
  unfold stepX stepM openX
  simp only [newTx, newX]
  have hg : Be.goesB cf.ring.toNat cf.ring.toNat bgNew = true := by simp [Be.goesB, bgNew]
  unfold goOn
  simp only [hg, Be.ansK, if_true]
  by_cases h2 : (stepV cf.ring.toNat bgNew (wordOf L (adV cf.ring.toNat bgNew))).st = 2
  · simp [h2, finX]
  · simp [h2]
theorem next_refl_of {H : List Nat} {w w' : World} {K : List Nat} (k : Keep K w w') (hK : ∀ q ∈ K, q ∈ H) : Next H H w w' := ⟨k.mono hK, fun _ hq => Or.inl hq⟩
theorem X_fl {y : Jv} {X : Nat} : ∀ q ∈ [X], q ∈ fl y X := fun q hq => mem_fl.2 ⟨[X], by simp [Jv.segs], hq⟩
theorem mem_word (L : List Ac) (h : L = []) : Wd L := by
  subst h
  intro a
  rw [wordOf_nil]
  unfold first
  split <;> exact ⟨by decide, by decide⟩
/-- What do makes of it. -/
theorem first_do {base : Nat} {p : Value} {c r : Nat} {F : List Nat} {X : Nat} {cf : Tl.Pc.Cf} {code : ByteArray} {l : List Int} {y : Jv} (hc : c ≤ 1024) (ho : Tl.Pc.okC cf = true) (hr : r = cf.ring.toNat) (t : Int) :
    ∃ k ee v j' L', j'.nr = 1 ∧ ∀ w1, base ≤ w1.heap.size → JW w1 base p c r [] F X (newJ cf code l) y → Calls Tryz.prog 27 #[.pointer (some ⟨X, 0, none⟩), p, .int .i64 t, .agg #[.int .i64 1, .int .i64 0, .int .i64 0, .int .i64 0]] w1 fun e w' => e = .returned (anV k ee v true) ∧ ∃ y' F', JW w' base p c r L' F' X j' y' ∧ Next (fl y X ++ F) (fl y' X ++ F') w1 w' := by
  subst hr
  obtain ⟨a1, a2, a3⟩ := first_ans c cf t []
  have hx : XOk (newTx cf) := by
    obtain ⟨_, _, b1, b2, d1, d2, e1, e2, _⟩ := ok_parts ho
    exact xok_new (by omega) (by omega) e1 e2 (by omega) (by omega)
  by_cases h3 : (doX c cf.ring.toNat (newTx cf) [] t ⟨1, 0, 0, 0⟩).k = 3
  · refine ⟨2, 0, 0, pubJ { newJ cf code l with wt := ⟨1, 0, 0, 0⟩, tx := (doX c cf.ring.toNat (newTx cf) [] t ⟨1, 0, 0, 0⟩).x }, (doX c cf.ring.toNat (newTx cf) [] t ⟨1, 0, 0, 0⟩).L, rfl, fun w1 hb1 h1 => ?_⟩
    refine do_run (a := ⟨1, 0, 0, 0⟩) h1 hb1 (by simp) (by simp [newJ, newTx, newX]) hx (mem_word _ rfl) hc t 2 0 0 true (fun w2 G hj hb2 => ?_)
    have hh := heed_done (j2 := pubJ { newJ cf code l with wt := ⟨1, 0, 0, 0⟩, tx := (doX c cf.ring.toNat (newTx cf) [] t ⟨1, 0, 0, 0⟩).x }) hj rfl (doX c cf.ring.toNat (newTx cf) [] t ⟨1, 0, 0, 0⟩).e (doX c cf.ring.toNat (newTx cf) [] t ⟨1, 0, 0, 0⟩).v true (fun w3 h3 _ => by
      refine (fin_idle h3 (Or.inl rfl) _).mono ?_
      rintro e w4 ⟨rfl, rfl⟩
      exact ⟨rfl, _, h3, Next.refl _ _⟩)
    have e3 : anV (doX c cf.ring.toNat (newTx cf) [] t (waOf ⟨1, 0, 0, 0⟩)).k (doX c cf.ring.toNat (newTx cf) [] t (waOf ⟨1, 0, 0, 0⟩)).e (doX c cf.ring.toNat (newTx cf) [] t (waOf ⟨1, 0, 0, 0⟩)).v (doX c cf.ring.toNat (newTx cf) [] t (waOf ⟨1, 0, 0, 0⟩)).y = anV 3 (doX c cf.ring.toNat (newTx cf) [] t ⟨1, 0, 0, 0⟩).e (doX c cf.ring.toNat (newTx cf) [] t ⟨1, 0, 0, 0⟩).v true := by
      show anV (doX c cf.ring.toNat (newTx cf) [] t ⟨1, 0, 0, 0⟩).k _ _ (doX c cf.ring.toNat (newTx cf) [] t ⟨1, 0, 0, 0⟩).y = _
      rw [h3, a1]
      rfl
    show Calls Tryz.prog 30 #[_, anV (doX c cf.ring.toNat (newTx cf) [] t (waOf ⟨1, 0, 0, 0⟩)).k _ _ _] w2 _
    rw [show (newJ cf code l).tx = newTx cf from rfl] at *
    rw [e3]
    exact hh
  · refine ⟨(doX c cf.ring.toNat (newTx cf) [] t ⟨1, 0, 0, 0⟩).k, (doX c cf.ring.toNat (newTx cf) [] t ⟨1, 0, 0, 0⟩).e, (doX c cf.ring.toNat (newTx cf) [] t ⟨1, 0, 0, 0⟩).v, pubJ { newJ cf code l with wt := ⟨1, 0, 0, 0⟩, tx := (doX c cf.ring.toNat (newTx cf) [] t ⟨1, 0, 0, 0⟩).x }, (doX c cf.ring.toNat (newTx cf) [] t ⟨1, 0, 0, 0⟩).L, rfl, fun w1 hb1 h1 => ?_⟩
    refine do_run (a := ⟨1, 0, 0, 0⟩) h1 hb1 (by simp) (by simp [newJ, newTx, newX]) hx (mem_word _ rfl) hc t _ _ _ true (fun w2 G hj hb2 => ?_)
    have hh := heed_pass hj rfl (doX c cf.ring.toNat (newTx cf) [] t ⟨1, 0, 0, 0⟩).k (doX c cf.ring.toNat (newTx cf) [] t ⟨1, 0, 0, 0⟩).e (doX c cf.ring.toNat (newTx cf) [] t ⟨1, 0, 0, 0⟩).v true h3 a2
    have e3 : (doX c cf.ring.toNat (newJ cf code l).tx [] t (waOf ⟨1, 0, 0, 0⟩)).y = true := a1
    rw [e3]
    refine hh.mono ?_
    rintro e w3 ⟨rfl, q1, q2⟩
    exact ⟨rfl, _, q1, next_refl_of q2 X_fl⟩
/-- The first step. -/
theorem first_step {w : World} {base : Nat} {p : Value} {c r : Nat} {F : List Nat} {X : Nat} {cf : Tl.Pc.Cf} {code : ByteArray} {l : List Int} {y : Jv} (h : JW w base p c r [] F X (newJ cf code l) y) (hb : base ≤ w.heap.size) (hc : c ≤ 1024) (ho : Tl.Pc.okC cf = true) (hg : overV (newJ cf code l) c r = true) (t : Int) :
    Calls Tryz.prog 13 #[.pointer (some ⟨X, 0, none⟩), p, .int .i64 t] w fun e w' => ∃ k ee v j' y' F' L', e = .returned (anV k ee v true) ∧ JW w' base p c r L' F' X j' y' ∧ j'.nr = 1 ∧ Next (fl y X ++ F) (fl y' X ++ F') w w' := by
  have hr : r = cf.ring.toNat := by
    simp only [overV, Bool.and_eq_true, decide_eq_true_eq] at hg
    have : ((newJ cf code l).cf).ring = cf.ring := rfl
    omega
  obtain ⟨k, ee, v, j', L', hn, hd⟩ := first_do (base := base) (p := p) (F := F) (X := X) (code := code) (l := l) (y := y) hc ho hr t
  refine (step_begin (L' := L') (j' := j') h rfl hg rfl t k ee v true (fun w1 h1 hs => hd w1 (Nat.le_trans hb hs) h1)).mono ?_
  rintro e w' ⟨rfl, y', F', q1, q2⟩
  exact ⟨k, ee, v, j', y', F', L', rfl, q1, hn, q2⟩
end Go.Proofs.YthnegagpmkblfaaGreatDoor.Pj
