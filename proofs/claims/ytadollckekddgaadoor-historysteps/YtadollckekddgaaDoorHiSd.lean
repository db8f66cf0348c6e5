/- What Txs and Order answer to the beginnings of a list; marks. -/
import Derived.Test.YtadollckekddgaaDoorHiPi
import Derived.Test.YtadollckekddgaaDoorHiPp
import Derived.Test.YtadollckekddgaaDoorHiSb
import Derived.Test.YtadollckekddgaaDoorHiR6
namespace Go.Proofs.YtadollckekddgaaDoor.Hi
open Go.ChangeShapes Go.WideShapes Go.ChangeAt Go.RowKit
set_option linter.unusedVariables false

def stE (H : List Ev) (n : Nat) : Int := if n ≤ good H then 0 else 14
def stK (H : List Ev) (n : Nat) : Int := if n ≤ good H then 0 else (good H : Int)
def TStW (w : World) (H : List Ev) (n : Nat) (e : Ending) (w' : World) : Prop := ∃ u L, e = .returned (.tuple #[u, .int .i64 (stE H n), .int .i64 (stK H n)]) ∧ w'.ownsRow w.heap.size 33 6 u L.length (t6s L) ∧ (n ≤ good H → ∃ p, readD (H.take n) = some p ∧ L = p.txs) ∧ (good H < n → L.length = 0) ∧ Below w.heap.size w w'
theorem txs_st {w : World} {sa : Option Addr} {cap n : Nat} {H : List Ev} {a c : Addr} (h : EvL w (.slice sa H.length cap) H) (he : ErrAt w a c) (hy : TyAt w) (hn : n ≤ H.length) : Calls Tryd.prog 5 #[.slice sa n cap] w (TStW w H n) := by
  refine (txs_any (h.take hn) he (fun _ w' hb => place_fault (hy.later hb (Nat.le_refl _)) _ _)).mono ?_
  rintro e w' ⟨hq, hb⟩
  unfold TStW stE stK
  by_cases hg : n ≤ good H
  · obtain ⟨p, hp⟩ := read_upto hn hg
    rw [hp] at hq
    dsimp only at hq
    obtain ⟨u, he, ho⟩ := hq
    rw [if_pos hg, if_pos hg]
    exact ⟨u, p.txs, he, ho, fun _ => ⟨p, hp, rfl⟩, fun h => by omega, hb⟩
  · have hr := read_past hn (by omega)
    rw [hr] at hq
    dsimp only at hq
    rw [good_take hn, show min n (good H) = good H by omega] at hq
    rw [if_neg hg, if_neg hg]
    exact ⟨_, [], hq, by simpa [t6s] using own_nil w' w.heap.size 33 6, fun h => absurd h hg, fun _ => rfl, hb⟩
theorem txs_grow {p q : Pa} {e : Ev} (ht : takeD p e = some q) : q.txs.length ≤ p.txs.length + 1 := by
  unfold takeD openD kindD publishD finishD at ht
  dsimp only at ht
  repeat' split at ht
  all_goals first | (cases ht; done) | (cases ht; simp; done) | (obtain ⟨t, _, rfl⟩ := Option.map_eq_some_iff.1 ht; simp [Pa.upd])
theorem len_le (H : List Ev) : ∀ n p, n ≤ H.length → readD (H.take n) = some p → p.txs.length ≤ n
  | 0, p, _, h => by simp [readD] at h; subst h; simp [pa0]
  | n + 1, p, hn, h => by
    cases hq : readD (H.take n) with
    | none => rw [take_ne (by omega), readD_snoc, hq] at h; cases h
    | some q =>
      rw [read_step (by omega) hq] at h
      have := len_le H n q (by omega) hq
      have h2 := txs_grow h
      omega
/-- The stamps of an order rise. -/
structure Rs (p : Pa) (f : Nat → Nat) : Prop where
  lt : ∀ i, i < p.txs.length → f i < p.txs.length
  inj : ∀ i j, i < j → j < p.txs.length → f i ≠ f j
  up : ∀ i j, i < j → j < p.txs.length → (nt p.txs (f i)).st ≠ 0 → (nt p.txs (f j)).st ≠ 0 → (nt p.txs (f i)).st < (nt p.txs (f j)).st
  pos : ∀ i, i < p.txs.length → (nt p.txs (f i)).st ≠ 0 → 0 < (nt p.txs (f i)).st
theorem rs_of {p : Pa} {f : Nat → Nat} (h : PiP p) (hp : PermOn id f 0 p.txs.length) (hs : Srt (kyD p) f 0 p.txs.length) : Rs p f := by
  have hlt : ∀ i, i < p.txs.length → f i < p.txs.length := fun i hi => by
    obtain ⟨q, hq, e⟩ := hp.mem (k := i) ⟨Nat.zero_le _, hi⟩
    rw [e]; exact hq.2
  have hinj : ∀ i j, i < j → j < p.txs.length → f i ≠ f j := fun i j h1 h2 e => by
    have := hs i j (Nat.zero_le _) h1 h2
    rw [e] at this
    exact tot_asymm this this
  have hpos : ∀ i, i < p.txs.length → (nt p.txs (f i)).st ≠ 0 → 0 < (nt p.txs (f i)).st := fun i hi h0 => by
    rcases h.r _ (hlt i hi) with h1 | h1
    · exact absurd h1 h0
    · omega
  refine ⟨hlt, hinj, fun i j h1 h2 h3 h4 => ?_, hpos⟩
  have k := hs i j (Nat.zero_le _) h1 h2
  have p1 := hpos i (by omega) h3
  have p2 := hpos j h2 h4
  have ne : (nt p.txs (f i)).st ≠ (nt p.txs (f j)).st := fun e => hinj i j h1 h2 (h.u _ _ (hlt i (by omega)) (hlt j h2) h3 e)
  unfold tot kyD plA plB at k
  rw [if_pos p1, if_pos p2, if_pos p1, if_pos p2] at k
  omega
def OStW (w : World) (p : Pa) (e : Ending) (w' : World) : Prop := ∃ u f, e = .returned (.tuple #[u, .int .i64 0]) ∧ IL w' u (ordL f p.txs.length) ∧ Rs p f ∧ Below w.heap.size w w'
theorem order_st {w : World} {sa : Option Addr} {cap n : Nat} {H : List Ev} {a c : Addr} {p : Pa} (h : EvL w (.slice sa H.length cap) H) (he : ErrAt w a c) (hn : n ≤ H.length) (hp : readD (H.take n) = some p) : Calls Tryd.prog 6 #[.slice sa n cap] w (OStW w p) := by
  have hl := len_le H n p hn hp
  have hh := h.len
  refine (order_any (h.take hn) he (fun q hq => stable_any (by
    rw [hp] at hq
    cases hq
    omega))).mono ?_
  intro e w' hq
  unfold OrdrQ at hq
  rw [hp] at hq
  dsimp only at hq
  obtain ⟨⟨u, f, he, ho, hpm, hs⟩, hb⟩ := hq
  exact ⟨u, f, he, own_il ho (ordL_len _ _) (by rw [ordL_len]; omega), rs_of (pi_read H n p hn hp) hpm hs, hb⟩
/-! ### marks -/
def bQ (F : Nat → Bool) (n : Nat) : Array Value := ((List.range n).map fun (i : Nat) => Value.bool (F i)).toArray
theorem bQ_size (F : Nat → Bool) (n : Nat) : (bQ F n).size = n := by simp [bQ]
theorem bQ_get (F : Nat → Bool) {n i : Nat} (h : i < n) : (bQ F n)[i]? = some (.bool (F i)) := by simp [bQ, h]
def mkS (f : Nat → Nat) (i : Nat) : Nat → Bool := fun k => (List.range i).any fun j => f j == k
theorem mkS_zero (f : Nat → Nat) : mkS f 0 = fun _ => false := by
  funext k
  simp [mkS]
theorem mkS_succ (f : Nat → Nat) (i k : Nat) : mkS f (i + 1) k = (mkS f i k || f i == k) := by
  unfold mkS
  rw [List.range_succ, List.any_append]
  simp
theorem mkS_no {f : Nat → Nat} {i N : Nat} (h : ∀ i j, i < j → j < N → f i ≠ f j) (hi : i < N) : mkS f i (f i) = false := by
  unfold mkS
  rw [List.any_eq_false]
  intro j hj
  have := h j i (List.mem_range.1 hj) hi
  simpa using this
theorem bQ_set (f : Nat → Nat) {n i : Nat} (h : f i < n) : (bQ (mkS f i) n).setIfInBounds (f i) (.bool true) = bQ (mkS f (i + 1)) n := by
  apply Array.ext_getElem?
  intro k
  rw [Array.getElem?_setIfInBounds]
  by_cases hk : k < n
  · rw [bQ_get _ hk, bQ_get _ hk, mkS_succ, bQ_size, if_pos h]
    split
    · rename_i e
      subst e
      simp
    · rename_i e
      have : (f i == k) = false := by simpa using e
      rw [this, Bool.or_false]
  · have h1 : (bQ (mkS f i) n)[k]? = none := Array.getElem?_eq_none (by rw [bQ_size]; omega)
    have h2 : (bQ (mkS f (i + 1)) n)[k]? = none := Array.getElem?_eq_none (by rw [bQ_size]; omega)
    rw [h1, h2, if_neg (by omega)]
theorem ordL_ni {f : Nat → Nat} {N i : Nat} (h : i < N) : ni (ordL f N) i = (f i : Int) := by
  unfold ni ordL
  rw [List.getD_eq_getElem?_getD, List.getElem?_map, List.getElem?_range h]
  rfl
theorem info_boolS : (Tryd.prog.info? 4).map (fun i => (i.zero, i.size, i.bytes)) = some (some (.bool false), 1, 1) := by kernel_rfl
theorem make_boolS (w : World) (n : Nat) (hn : n ≤ 925925926000) :
    (Instr.makeSlice 31 (.int .i64 (n : Int)) (.int .i64 (n : Int))).run Tryd.prog w = .ok (.slice (some ⟨w.heap.size, 0, none⟩) n n) (w.alloc (.cells (bQ (fun _ => false) n) 4)) := by
  obtain ⟨i0, hi, hz0, hz1, hz2⟩ := info_parts info_boolS
  have := run_make (P := Tryd.prog) w 31 4 i0 _ Tryd.underlying31 hi hz0 .i64 .i64 (n : Int) (n : Int) (by omega) (by omega) (by rw [hz2]; omega) (by omega)
  rw [this]
  have e : bQ (fun _ => false) n = madeCells (Value.cells (.bool false)) n := by
    apply Array.ext
    · simp [bQ, madeCells, Value.cells]
    · intro i h1 h2
      simp [bQ, madeCells, Value.cells, Nat.mod_one]
  rw [e]
  simp [hz1]
theorem cell_blkS {w w' : World} {a : Addr} (h : w'.heap[a.block]? = w.heap[a.block]?) : w'.cell? a = w.cell? a := by
  unfold World.cell?
  rw [h]
theorem cell_setS {w : World} {g o : Nat} {v : Value} {y : Addr} (h : y.block < w.heap.size) (hn : y.block ≠ g) : (w.setCell ⟨g, o, none⟩ v).cell? y = w.cell? y :=
  cell_blkS (((Keep.refl [g] w).setCell _ _ (Or.inl (by simp))).block _ h (by simpa using hn))
end Go.Proofs.YtadollckekddgaaDoor.Hi
