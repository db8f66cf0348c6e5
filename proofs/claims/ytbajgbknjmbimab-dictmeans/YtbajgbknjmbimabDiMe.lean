/- What is meant by a call: keys with their values. -/
import Derived.Test.YtbajgbknjmbimabDiCn
import Derived.Test.YtbajgbknjmbimabDiU
namespace Go.Proofs.Ytbajgbknjmbimab.Di
open Go.ChangeShapes Go.WideShapes Go.ChangeAt Go.RowKit
attribute [local go_sem ↓] Go.wp_at_zero Go.wp_at_succ

/-- Where a key stands (behind the last one: nowhere). -/
def plN (key : Int) : List (Int × Int) → Nat
  | [] => 0
  | p :: P => if p.1 = key then 0 else plN key P + 1
def plV (key : Int) (P : List (Int × Int)) : Int := if plN key P < P.length then (plN key P : Int) else -1
theorem pl_hit {key : Int} : ∀ {P : List (Int × Int)} {j : Nat}, (∀ i, i < j → ∀ h : i < P.length, (P[i]).1 ≠ key) → ∀ h : j < P.length, (P[j]).1 = key → plN key P = j
  | [], j, _, h, _ => by simp at h
  | p :: P, 0, _, _, hk => by
    have hk' : p.1 = key := hk
    simp only [plN]
    rw [if_pos hk']
  | p :: P, j + 1, hb, h, hk => by
    have h0 : p.1 ≠ key := hb 0 (by omega) (by simp)
    simp only [plN]
    rw [if_neg h0, pl_hit (P := P) (j := j) (fun i hi h' => hb (i + 1) (by omega) (by simpa using h')) (by simpa using h) hk]
theorem pl_none {key : Int} : ∀ {P : List (Int × Int)}, (∀ i, ∀ h : i < P.length, (P[i]).1 ≠ key) → plN key P = P.length
  | [], _ => rfl
  | p :: P, hb => by
    have h0 : p.1 ≠ key := hb 0 (by simp)
    simp only [plN]
    rw [if_neg h0, pl_none (P := P) (fun i h' => hb (i + 1) (by simpa using h'))]
    rfl
theorem pl_at {key : Int} : ∀ {P : List (Int × Int)} (h : plN key P < P.length), (P[plN key P]).1 = key
  | [], h => by simp at h
  | p :: P, h => by
    by_cases hk : p.1 = key
    · have e : plN key (p :: P) = 0 := by simp only [plN]; rw [if_pos hk]
      simp only [e]
      exact hk
    · have e : plN key (p :: P) = plN key P + 1 := by simp only [plN]; rw [if_neg hk]
      simp only [e]
      rw [e] at h
      exact pl_at (P := P) (by simpa using h)
theorem pl_no {key : Int} : ∀ {P : List (Int × Int)}, ¬ plN key P < P.length → ∀ p ∈ P, p.1 ≠ key
  | [], _, p, hp => by cases hp
  | q :: P, h, p, hp => by
    by_cases hk : q.1 = key
    · simp only [plN] at h; rw [if_pos hk] at h; simp at h
    · simp only [plN] at h
      rw [if_neg hk] at h
      rcases List.mem_cons.1 hp with rfl | hp
      · exact hk
      · exact pl_no (P := P) (by simpa using h) p hp
theorem pv_wrap {n i : Nat} (hi : i < n) (hn : n ≤ 16) : wrap64 ((i : Int) + 1) = ((i + 1 : Nat) : Int) := by
  unfold wrap64
  omega
theorem pv_less {n i : Nat} (hi : i < n) : n - (i + 1) < n - i := by omega
theorem pl_cells {w : World} {va : Option Addr} {n cap : Nat} {P : List (Int × Int)} (h : Pl w (.slice va n cap) P) {k : Nat} (hk : k < P.length) : ∃ x, va = some x ∧ x.block < w.heap.size ∧ w.cell? (x.add (k * 2)) = some (.int .i64 (P[k]).1) ∧ w.cell? ⟨(x.add (k * 2)).block, (x.add (k * 2)).off + 1, none⟩ = some (.int .i64 (P[k]).2) := by
  obtain ⟨a, c, h1, h2, _, h4, h5⟩ := h
  injection h1 with e1 e2 e3
  subst e1 e3
  cases va with
  | none => have := h4 rfl; omega
  | some x =>
    have g0 := prC_get P k 0 hk (by decide)
    have g1 := prC_get P k 1 hk (by decide)
    have c0 := (h5 x rfl).2 (k * 2 + 0) _ (by rw [g0]; rfl)
    have c1 := (h5 x rfl).2 (k * 2 + 1) _ (by rw [g1]; rfl)
    refine ⟨x, rfl, (h5 x rfl).1, c0, ?_⟩
    rw [← c1]
    congr 1
    rw [add_pos' _ (k * 2 + 1) (by omega)]
    by_cases hk0 : k = 0
    · subst hk0; simp [add_zero']
    · rw [add_pos' _ (k * 2) (by omega)]
      simp [Nat.add_assoc]
theorem place_any {w : World} {v : Value} {P : List (Int × Int)} (hp : Pl w v P) (h16 : P.length ≤ 16) (key : Int) : Calls Try.prog 14 #[v, .int .i64 key] w fun e w' => e = .returned (.int .i64 (plV key P)) ∧ Below w.heap.size w w' := by
  have HP : Hid (∀ w' : World, Below w.heap.size w w' → Pl w' v P) := fun w' h => hp.later h
  obtain ⟨a, cap, rfl, _⟩ := hp
  obtain ⟨r, hr⟩ : ∃ r, plV key P = r := ⟨_, rfl⟩
  have HR : Hid (plV key P = r) := hr
  have H16 : Hid (P.length ≤ 16) := h16
  rw [hr]
  clear hr h16
  go_enter Try.func14, Try.ntmps14
  go_wp2_with fail
  go_loopg [5] P.length (fun gh iv wr => ∃ i : Nat, P.length - i = gh ∧ i ≤ P.length ∧ iv = .int .i64 (i : Int) ∧ Below w.heap.size w wr ∧ ∀ t, t < i → ∀ h : t < P.length, (P[t]).1 ≠ key)
  case atStart => exact ⟨0, rfl, Nat.zero_le _, rfl, Below.refl _ _, fun t ht => absurd ht (Nat.not_lt_zero t)⟩
  case round =>
    obtain ⟨i, rfl, hi, rfl, hbr, hno⟩ := hrel
    have HBR : Hid (Below w.heap.size w wr) := hbr
    have HNO : Hid (∀ t, t < i → ∀ h : t < P.length, (P[t]).1 ≠ key) := hno
    clear hbr hno
    by_cases hlt : i < P.length
    · obtain ⟨x, rfl, hxb, x0, x1⟩ := pl_cells (HP.out wr HBR.out) hlt
      have d1 : decide ((i : Int) < (P.length : Int)) = true := by simpa using hlt
      by_cases hk : (P[i]).1 = key
      · have HE : Hid (r = (i : Int)) := by rw [Hid, ← HR.out]; unfold plV; rw [pl_hit HNO.out hlt hk, if_pos hlt]
        rw [hk] at x0
        clear hi hxb x1 hk
        go_wp2_with fail
        go_ret
        exact ⟨by rw [HE.out]; rfl, HBR.out⟩
      · have dk : ((P[i]).1 == key) = false := by simpa using hk
        have HN2 : Hid (∀ t, t < i + 1 → ∀ h : t < P.length, (P[t]).1 ≠ key) := fun t ht h => by
          by_cases e : t = i
          · subst e; exact hk
          · exact HNO.out t (by omega) h
        have HIW : Hid (wrap64 ((i : Int) + 1) = ((i + 1 : Nat) : Int)) := pv_wrap hlt H16.out
        generalize (P[i]).1 = zk at *
        clear hi hxb x1 hk
        go_wp2_with fail
        go_roundg (P.length - (i + 1))
        case rel => exact ⟨i + 1, rfl, hlt, by first | rw [HIW.out] | go_num, HBR.out, HN2.out⟩
        case measure => exact pv_less hlt
    · have d1 : decide ((i : Int) < (P.length : Int)) = false := by simpa using hlt
      have HE : Hid (r = -1) := by
        have e := pl_none (key := key) (P := P) (fun t h => HNO.out t (by omega) h)
        rw [Hid, ← HR.out]
        unfold plV
        rw [e, if_neg (by omega)]
      clear hi
      go_wp2_with fail
      go_ret
      exact ⟨by rw [HE.out]; rfl, HBR.out⟩
theorem prC_set : ∀ (P : List (Int × Int)) (q : Nat) (p : Int × Int), q < P.length → prC (P.set q p) = ((prC P).set (q * 2) (.int .i64 p.1)).set (q * 2 + 1) (.int .i64 p.2)
  | [], q, p, h => by simp at h
  | a :: P, 0, p, _ => rfl
  | a :: P, q + 1, p, h => by
    have ih := prC_set P q p (by simpa using h)
    have e1 : prC (a :: P) = .int .i64 a.1 :: .int .i64 a.2 :: prC P := rfl
    have e2 : prC ((a :: P).set (q + 1) p) = .int .i64 a.1 :: .int .i64 a.2 :: prC (P.set q p) := rfl
    rw [e1, e2, ih, show (q + 1) * 2 = q * 2 + 1 + 1 by omega]
    rfl
theorem own_set2 {w : World} {base g n cap : Nat} {e : TypeId} {xs : List Value} (h : w.ownsRow base e 2 (.slice (some ⟨g, 0, none⟩) n cap) n xs) (j : Nat) (v : Value) : (w.setCell ⟨g, j, none⟩ v).ownsRow base e 2 (.slice (some ⟨g, 0, none⟩) n cap) n (xs.set j v) := by
  have hl := h.1
  rcases h.2 with ⟨e, _⟩ | ⟨g', cap', cur, e, hb, hg, h1, h2, h3, h4⟩
  · cases e
  · simp at e
    obtain ⟨rfl, rfl⟩ := e
    refine ⟨by rw [List.length_set]; exact hl, Or.inr ⟨g, cap, cur.setIfInBounds j v, rfl, hb, heap_set hg j v, h1, h2, by simpa using h3, ?_⟩⟩
    rw [← h4]
    simp [List.take_set]
theorem own_take2 {w : World} {base g n cap k : Nat} {e : TypeId} {P : List (Int × Int)} (h : w.ownsRow base e 2 (.slice (some ⟨g, 0, none⟩) n cap) n (prC P)) (hP : P.length = n) (hk : k ≤ n) : w.ownsRow base e 2 (.slice (some ⟨g, 0, none⟩) k cap) k (prC (P.take k)) := by
  rcases h.2 with ⟨e, _⟩ | ⟨g', cap', cur, e, hb, hg, h1, h2, h3, h4⟩
  · cases e
  · simp at e
    obtain ⟨rfl, rfl⟩ := e
    refine ⟨by rw [prC_len]; simp; omega, Or.inr ⟨g, cap, cur, rfl, hb, hg, by omega, h2, h3, ?_⟩⟩
    have e1 : prC P = prC (P.take k) ++ prC (P.drop k) := by rw [← prC_app, List.take_append_drop]
    have e2 : (prC (P.take k)).length = k * 2 := by rw [prC_len]; simp; omega
    have e3 : cur.toList.take (k * 2) = (cur.toList.take (n * 2)).take (k * 2) := by rw [List.take_take]; congr 1; omega
    rw [e3, h4, e1, List.take_append_of_le_length (by omega), List.take_of_length_le (by omega)]
theorem prC_chg : ∀ (P : List (Int × Int)) (q : Nat) (k y : Int) (h : q < P.length), (P[q]).1 = k → prC (P.set q (k, y)) = (prC P).set (q * 2 + 1) (.int .i64 y)
  | [], q, k, y, h, _ => by simp at h
  | a :: P, 0, k, y, _, hk => by
    have hk' : a.1 = k := hk
    subst hk'
    rfl
  | a :: P, q + 1, k, y, h, hk => by
    have ih := prC_chg P q k y (by simpa using h) hk
    have e1 : prC (a :: P) = .int .i64 a.1 :: .int .i64 a.2 :: prC P := rfl
    have e2 : prC ((a :: P).set (q + 1) (k, y)) = .int .i64 a.1 :: .int .i64 a.2 :: prC (P.set q (k, y)) := rfl
    rw [e1, e2, ih, show (q + 1) * 2 + 1 = q * 2 + 1 + 1 + 1 by omega]
    rfl
theorem getD_at {P : List (Int × Int)} {q : Nat} (h : q < P.length) : P.getD q (0, 0) = P[q] := by simp [List.getD, h]
theorem row_at {w w1 : World} {base g n cap k : Nat} {P : List (Int × Int)} (hb : Below w.heap.size w w1) (h : w.ownsRow base 39 2 (.slice (some ⟨g, 0, none⟩) n cap) P.length (prC P)) (hk : k < P.length) :
    w1.ownsRow base 39 2 (.slice (some ⟨g, 0, none⟩) P.length cap) P.length (prC P) ∧ (⟨g, 0, none⟩ : Addr).add (k * 2) = ⟨g, k * 2, none⟩ ∧ w1.cell? ⟨g, k * 2, none⟩ = some (.int .i64 (P[k]).1) ∧ w1.cell? ⟨g, k * 2 + 1, none⟩ = some (.int .i64 (P[k]).2) ∧ w1.frozen? ⟨g, k * 2, none⟩ = false ∧ w1.frozen? ⟨g, k * 2 + 1, none⟩ = false := by
  have h1 := own_keep h (Keep.of_below hb []) (by simp)
  have hn : n = P.length := by
    rcases h.2 with ⟨e, _⟩ | ⟨g', cap', cur, e, _⟩
    · cases e
    · injection e
  subst hn
  have g0 := prC_get P k 0 hk (by decide)
  have g1 := prC_get P k 1 hk (by decide)
  have hcur : ∀ j, w1.frozen? ⟨g, j, none⟩ = false := fun j => by
    rcases h1.2 with ⟨e, _⟩ | ⟨g', cap', cur, e, _, hg, _⟩
    · cases e
    · injection e with e1 _ _
      injection e1 with e1
      injection e1 with e1 _ _
      rw [e1]
      exact frozen_at hg j
  exact ⟨h1, add_own _ _, own_cells h1 (k * 2 + 0) _ (by rw [g0]; rfl), own_cells h1 (k * 2 + 1) _ (by rw [g1]; rfl), hcur _, hcur _⟩
theorem pn_facts {q n : Nat} (h : q < n) (hn : n ≤ 16) : ((n : Int) - 1) = ((n - 1 : Nat) : Int) ∧ n - 1 < n ∧ wrap64 ((n : Int) - 1) = ((n - 1 : Nat) : Int) := by
  refine ⟨by omega, by omega, ?_⟩
  unfold wrap64
  omega
/-- What a call means: the pairs behind it, its answer, its code. -/
def meanV (n c : Int) (A : List Int) (P : List (Int × Int)) : List (Int × Int) × Int × Int :=
  if c = 5 then (P, (P.length : Int), 0)
  else if c = 3 then (if plN (nth A 0) P < P.length then (P.set (plN (nth A 0) P) (nth A 0, nth A 1), 0, 0) else if n ≤ (P.length : Int) then (P, 0, 2) else (P ++ [(nth A 0, nth A 1)], 0, 0))
  else if c = 2 then (if plN (nth A 0) P < P.length then (P, (P.getD (plN (nth A 0) P) (0, 0)).2, 0) else (P, 0, 1))
  else if plN (nth A 0) P < P.length then ((P.set (plN (nth A 0) P) (P.getD (P.length - 1) (0, 0))).take (P.length - 1), 0, 0) else (P, 0, 1)
/-- A row of pairs is handed back, and all else stays. -/
structure MnA (w : World) (base : Nat) (vp : Value) (r : List (Int × Int) × Int × Int) (e : Ending) (w' : World) : Prop where
  out : ∃ v', e = .returned (.tuple #[v', .int .i64 r.2.1, .int .i64 r.2.2]) ∧ w'.ownsRow base 39 2 v' r.1.length (prC r.1) ∧ (∀ b, v'.ownBlock = some b → vp.ownBlock = some b ∨ w.heap.size ≤ b)
  kp : Keep vp.ownBlock.toList w w'
set_option maxRecDepth 100000 in
set_option maxHeartbeats 2000000 in
theorem means_any {w : World} {base : Nat} {vp va : Value} {P : List (Int × Int)} {A : List Int} (n c : Int) (ho : w.ownsRow base 39 2 vp P.length (prC P)) (hb : base ≤ w.heap.size) (h16 : P.length ≤ 16) (ha : Nl w va A) (hc : arV c = A.length) : Calls Try.prog 13 #[vp, .int .i64 n, .int .i64 c, va] w (MnA w base vp (meanV n c A P)) := by
  have HPL : Hid (∀ key, Calls Try.prog 14 #[vp, .int .i64 key] w fun e w' => e = .returned (.int .i64 (plV key P)) ∧ Below w.heap.size w w') := fun key => place_any (Pl.of_own ho) h16 key
  have HO : Hid (w.ownsRow base 39 2 vp P.length (prC P)) := ho
  have HB : Hid (base ≤ w.heap.size) := hb
  have H16 : Hid (P.length ≤ 16) := h16
  obtain ⟨pa, pcap, rfl⟩ := own_slice ho
  obtain ⟨aa, acap, rfl⟩ := nl_slice ha
  obtain ⟨_, hal, hac⟩ := nl_cells ha
  have hcc : c = 5 ∨ c = 3 ∨ c = 2 ∨ c = 4 := by
    unfold arV at hc
    by_cases e1 : c = 3
    · exact Or.inr (Or.inl e1)
    · by_cases e2 : c = 2
      · exact Or.inr (Or.inr (Or.inl e2))
      · by_cases e3 : c = 4
        · exact Or.inr (Or.inr (Or.inr e3))
        · by_cases e4 : c = 5
          · exact Or.inl e4
          · rw [if_neg e1, if_neg e2, if_neg e3, if_neg e4] at hc; omega
  obtain ⟨r, hr⟩ : ∃ r, meanV n c A P = r := ⟨_, rfl⟩
  rw [hr]
  unfold meanV at hr
  by_cases h5 : c = 5
  · rw [if_pos h5] at hr
    subst hr h5
    have hpw : IntKind.i64.wrap (P.length : Int) = (P.length : Int) := len_wrap (by omega)
    clear hb h16 ha hc hal hac hcc ho HPL
    go_enter Try.func13, Try.ntmps13
    go_wp2_with fail
    go_ret3
    exact ⟨⟨_, rfl, HO.out, fun b hb => Or.inl hb⟩, Keep.refl _ _⟩
  · rw [if_neg h5] at hr
    have b5 : (c == 5) = false := by simpa using h5
    have hA0 : 0 < A.length := by
      rcases hcc with e | e | e | e
      · exact absurd e h5
      · subst e; simp [arV] at hc; omega
      · subst e; simp [arV] at hc; omega
      · subst e; simp [arV] at hc; omega
    obtain ⟨xa, rfl, hxa, a0⟩ := hac 0 hA0
    rw [add_zero'] at a0
    have HA1 : Hid (c = 3 → w.cell? ⟨xa.block, xa.off + 1, none⟩ = some (.int .i64 (nth A 1)) ∧ 1 < A.length) := fun e => by
      subst e
      have h2 : A.length = 2 := by simp [arV] at hc; omega
      obtain ⟨x', e, _, h1⟩ := hac 1 (by omega)
      injection e with e
      subst e
      rw [add_pos' _ _ (by decide)] at h1
      exact ⟨h1, by omega⟩
    have HXA : Hid (xa.block < w.heap.size) := hxa
    have HPK := HPL.out (nth A 0)
    have HPV : Hid (plV (nth A 0) P = if plN (nth A 0) P < P.length then (plN (nth A 0) P : Int) else -1) := rfl
    have HAT : Hid (∀ h : plN (nth A 0) P < P.length, (P[plN (nth A 0) P]).1 = nth A 0) := fun h => pl_at h
    clear HPL hac
    generalize nth A 0 = key at *
    generalize plN key P = q at *
    by_cases hq : q < P.length
    · have HQ : Hid (plV key P = (q : Int)) := by rw [Hid, HPV.out, if_pos hq]
      rw [HQ.out] at HPK
      have HPK' : Hid (Calls Try.prog 14 #[.slice pa P.length pcap, .int .i64 key] w fun e w' => e = .returned (.int .i64 (q : Int)) ∧ Below w.heap.size w w') := HPK
      obtain ⟨g, hpa⟩ : ∃ g, pa = some ⟨g, 0, none⟩ := by
        rcases HO.out.2 with ⟨e, h0⟩ | ⟨g, cap, cur, e, _⟩
        · omega
        · injection e with e1 _ _
          exact ⟨g, e1⟩
      subst hpa
      have dq : decide (0 ≤ (q : Int)) = true := by simp
      have dq' : decide ((q : Int) < 0) = false := by simp
      rcases hcc with e | e | e | e
      · exact absurd e h5
      · subst e
        rw [if_pos rfl, if_pos hq] at hr
        subst hr
        obtain ⟨a1, hA1⟩ := HA1.out rfl
        generalize nth A 1 = y1 at *
        clear hb h16 ha hc hal ho HPK h5 b5 HA1 HPV HQ
        go_enter Try.func13, Try.ntmps13
        go_wp2_with fail
        refine HPK'.out.mono ?_
        rintro e w1 ⟨rfl, hb1⟩
        obtain ⟨hown1, hadd, hc0, hc1, hfz⟩ := row_at hb1 HO.out hq
        have a1' : w1.cell? ⟨xa.block, xa.off + 1, none⟩ = some (.int .i64 y1) := cell_later (a := ⟨xa.block, xa.off + 1, none⟩) hb1 HXA.out a1
        have HF : Hid (MnA w base (.slice (some ⟨g, 0, none⟩) P.length pcap) (P.set q (key, y1), 0, 0) (.returned (.tuple #[.slice (some ⟨g, 0, none⟩) P.length pcap, .int .i64 0, .int .i64 0])) (w1.setCell ⟨g, q * 2 + 1, none⟩ (.int .i64 y1))) := ⟨⟨_, rfl, by rw [prC_chg P q key y1 hq (HAT.out hq), List.length_set]; exact own_set2 hown1 _ _, fun b hb => Or.inl hb⟩, (Keep.of_below hb1 _).setCell _ _ (Or.inl (by simp [Value.ownBlock]))⟩
        have hgl : g < w1.heap.size := (own_block hown1 g rfl).2
        clear hown1 hb1 a0 a1 HPK'
        go_wp2_with fail
        go_ret3
        exact HF.out
      · subst e
        rw [if_neg (by decide), if_pos rfl, if_pos hq] at hr
        subst hr
        clear hb h16 ha hc hal ho HPK h5 b5 HA1 HPV HQ
        go_enter Try.func13, Try.ntmps13
        go_wp2_with fail
        refine HPK'.out.mono ?_
        rintro e w1 ⟨rfl, hb1⟩
        obtain ⟨hown1, hadd, hc0, hc1, hfz⟩ := row_at hb1 HO.out hq
        have HF : Hid (∀ w2, Below w1.heap.size w1 w2 → MnA w base (.slice (some ⟨g, 0, none⟩) P.length pcap) (P, (P.getD q (0, 0)).2, 0) (.returned (.tuple #[.slice (some ⟨g, 0, none⟩) P.length pcap, .int .i64 (P[q]).2, .int .i64 0])) w2) := fun w2 hb2 => ⟨⟨_, by rw [getD_at hq], own_keep hown1 (Keep.of_below hb2 []) (by simp), fun b hb => Or.inl hb⟩, (Keep.of_below hb1 _).trans (Keep.of_below hb2 []) (by simp)⟩
        clear hown1 hb1 a0 HPK'
        generalize (P[q]).2 = pv at *
        go_wp2_with fail
        go_quiet (fail)
        go_wp2_with fail
        go_ret3
        exact HF.out _ (below_drawn (Below.refl _ _) _)
      · subst e
        rw [if_neg (by decide), if_neg (by decide), if_pos hq] at hr
        subst hr
        clear hb h16 ha hc hal ho HPK h5 b5 HA1 HPV HQ
        go_enter Try.func13, Try.ntmps13
        go_wp2_with fail
        refine HPK'.out.mono ?_
        rintro e w1 ⟨rfl, hb1⟩
        obtain ⟨hown1, hadd, hc0, hc1, hfz⟩ := row_at hb1 HO.out hq
        obtain ⟨_, hadd2, hd0, hd1, _⟩ := row_at hb1 HO.out (k := P.length - 1) (Nat.sub_lt (Nat.lt_of_le_of_lt (Nat.zero_le _) hq) Nat.one_pos)
        have HPN : Hid (((P.length : Int) - 1) = ((P.length - 1 : Nat) : Int) ∧ P.length - 1 < P.length ∧ wrap64 ((P.length : Int) - 1) = ((P.length - 1 : Nat) : Int)) := pn_facts hq H16.out
        have hwn := HPN.out.2.2
        have hnn := HPN.out.2.1
        have hgl : g < w1.heap.size := (own_block hown1 g rfl).2
        have HOW : Hid (w1.ownsRow base 39 2 (.slice (some ⟨g, 0, none⟩) P.length pcap) P.length (prC P) ∧ Below w.heap.size w w1) := ⟨hown1, hb1⟩
        have HGD : Hid (P.getD (P.length - 1) (0, 0) = P[P.length - 1]) := getD_at hnn
        generalize hlk : (P[P.length - 1]).1 = lk at *
        generalize hlv : (P[P.length - 1]).2 = lv at *
        have HLP : Hid (P.getD (P.length - 1) (0, 0) = (lk, lv)) := by rw [HGD.out, ← hlk, ← hlv]; exact rfl
        obtain ⟨hf0, hf1⟩ := hfz
        clear hown1 hb1 a0 HPK' hlk hlv
        have hpc : P.length ≤ pcap := by obtain ⟨_, _, e, h, _⟩ := Pl.of_own HOW.out.1; injection e with _ _ e; omega
        have hpc1 : P.length - 1 ≤ pcap := Nat.le_trans (Nat.sub_le _ _) hpc
        have HF : Hid (MnA w base (.slice (some ⟨g, 0, none⟩) P.length pcap) ((P.set q (P.getD (P.length - 1) (0, 0))).take (P.length - 1), 0, 0) (.returned (.tuple #[.slice (some ⟨g, 0, none⟩) (P.length - 1) pcap, .int .i64 0, .int .i64 0])) ((w1.setCell ⟨g, q * 2, none⟩ (.int .i64 lk)).setCell ⟨g, q * 2 + 1, none⟩ (.int .i64 lv))) := by
          refine ⟨⟨_, rfl, ?_, fun b hb => Or.inl hb⟩, ((Keep.of_below HOW.out.2 _).setCell _ _ (Or.inl (by simp [Value.ownBlock]))).setCell _ _ (Or.inl (by simp [Value.ownBlock]))⟩
          have h1 := own_set2 (own_set2 HOW.out.1 (q * 2) (.int .i64 lk)) (q * 2 + 1) (.int .i64 lv)
          rw [← prC_set P q (lk, lv) hq, ← HLP.out] at h1
          have h2 := own_take2 (k := P.length - 1) h1 (by simp) (Nat.sub_le _ _)
          have e : ((P.set q (P.getD (P.length - 1) (0, 0))).take (P.length - 1)).length = P.length - 1 := by simp
          rw [e]
          exact h2
        go_wp2_with fail
        go_ret3
        exact HF.out
    · have HQ : Hid (plV key P = -1) := by rw [Hid, HPV.out, if_neg hq]
      rw [HQ.out] at HPK
      have HPK' : Hid (Calls Try.prog 14 #[.slice pa P.length pcap, .int .i64 key] w fun e w' => e = .returned (.int .i64 (-1)) ∧ Below w.heap.size w w') := HPK
      have HFS : Hid (∀ (w1 : World) (r : Int), Below w.heap.size w w1 → MnA w base (.slice pa P.length pcap) (P, 0, r) (.returned (.tuple #[.slice pa P.length pcap, .int .i64 0, .int .i64 r])) w1) := fun w1 r hb1 => ⟨⟨_, rfl, own_keep HO.out (Keep.of_below hb1 []) (by simp), fun b hb => Or.inl hb⟩, Keep.of_below hb1 _⟩
      rcases hcc with e | e | e | e
      · exact absurd e h5
      · subst e
        rw [if_pos rfl, if_neg hq] at hr
        obtain ⟨a1, hA1⟩ := HA1.out rfl
        have hA1i : (1 : Int) < (A.length : Int) := by omega
        have hA0i : (0 : Int) < (A.length : Int) := by omega
        generalize nth A 1 = y1 at *
        by_cases hf : n ≤ (P.length : Int)
        · rw [if_pos hf] at hr
          subst hr
          have df : decide (n ≤ (P.length : Int)) = true := by simpa using hf
          clear hb h16 ha hc hal ho HPK h5 b5 HA1 HPV HQ hf hq
          go_enter Try.func13, Try.ntmps13
          go_wp2_with fail
          refine HPK'.out.mono ?_
          rintro e w1 ⟨rfl, hb1⟩
          have HF := HFS.out w1 2 hb1
          clear hb1 a0 a1 HPK' HFS
          go_wp2_with fail
          go_ret3
          exact HF
        · rw [if_neg hf] at hr
          subst hr
          have df : decide (n ≤ (P.length : Int)) = false := by simpa using hf
          clear hb h16 ha hc hal ho HPK h5 b5 HA1 HPV HQ hf hq HFS
          obtain ⟨i0, hi0, hz0, hz1, hz2⟩ := info_parts info_pair
          go_enter Try.func13, Try.ntmps13
          go_wp2_with fail
          refine HPK'.out.mono ?_
          rintro e w1 ⟨rfl, hb1⟩
          have y0 : w1.cell? xa = some (.int .i64 key) := cell_later hb1 HXA.out a0
          have y1' : w1.cell? ⟨xa.block, xa.off + 1, none⟩ = some (.int .i64 y1) := cell_later (a := ⟨xa.block, xa.off + 1, none⟩) hb1 HXA.out a1
          have HO1 : Hid (w1.ownsRow base 39 2 (.slice pa P.length pcap) P.length (prC P) ∧ Below w.heap.size w w1) := ⟨own_keep HO.out (Keep.of_below hb1 []) (by simp), hb1⟩
          have hbw : base ≤ w1.heap.size := Nat.le_trans HB.out hb1.size
          have HAP : Hid (prC (P ++ [(key, y1)]) = prC P ++ [.int .i64 key, .int .i64 y1]) := prC_snoc P key y1
          have hlen : (prC P).length = P.length * 2 := prC_len P
          have h16' : P.length ≤ 16 := H16.out
          clear hb1 a0 a1 HPK' hxa HAT
          generalize hm : P.length = m at *
          have HKM : Hid (P.length = m) := hm
          generalize hX : prC P = X at *
          clear hm hX
          go_wp2_with fail
          go_region_law (refine step_lies_wide _ (by rfl) _ _ _ (by rfl) base 39 i0 _ 2 16 Try.underlying32 hi0 hz0 hz1 hz2 rfl (by omega) (.slice pa m pcap) m X (by rfl) ((HO1.out.1.alloc _).drew) ⟨w1.heap.size, 0, none⟩ 1 1 [.int .i64 key, .int .i64 y1] (by rfl) (by rfl) (World.news_of_block (cs := #[.int .i64 key, .int .i64 y1]) (t := 39) (fr := (0, 0)) (heap_alloc_new w1 _)) (by simp [Value.oneCell']) (by omega) (by unfold maxLen; omega) (by omega) (by simp; omega) (w1.heap.size + 1) (by simp) ?_; intro gg cap' w3 hown3 hgrow hat hlt3)
          all_goals
            have HF : Hid (MnA w base (.slice pa m pcap) (P ++ [(key, y1)], 0, 0) (.returned (.tuple #[.slice (some ⟨gg, 0, none⟩) (m + 1) cap', .int .i64 0, .int .i64 0])) w3) := by
              refine ⟨⟨_, rfl, by rw [HAP.out, List.length_append, HKM.out]; exact hown3, fun b hb => ?_⟩, ?_⟩
              · simp [Value.ownBlock] at hb
                subst hb
                rcases hat with h1 | h1
                · exact Or.inl h1
                · have := HO1.out.2.size; exact Or.inr (by omega)
              · exact (((Keep.of_below HO1.out.2 _).alloc _).trans (Keep.of_below (below_drawn (Below.refl _ _) 1) []) (by simp)).grown hgrow (fun b hb => Or.inl (by simp [hb]))
            clear hown3 hgrow hat hlt3 y0 y1'
            go_wp2_with fail
            go_ret3
            exact HF.out
      · subst e
        rw [if_neg (by decide), if_pos rfl, if_neg hq] at hr
        subst hr
        clear hb h16 ha hc hal ho HPK h5 b5 HA1 HPV HQ hq
        go_enter Try.func13, Try.ntmps13
        go_wp2_with fail
        refine HPK'.out.mono ?_
        rintro e w1 ⟨rfl, hb1⟩
        have HF := HFS.out w1 1 hb1
        clear hb1 a0 HPK' HFS
        go_wp2_with fail
        go_ret3
        exact HF
      · subst e
        rw [if_neg (by decide), if_neg (by decide), if_neg hq] at hr
        subst hr
        clear hb h16 ha hc hal ho HPK h5 b5 HA1 HPV HQ hq
        go_enter Try.func13, Try.ntmps13
        go_wp2_with fail
        refine HPK'.out.mono ?_
        rintro e w1 ⟨rfl, hb1⟩
        have HF := HFS.out w1 1 hb1
        clear hb1 a0 HPK' HFS
        go_wp2_with fail
        go_ret3
        exact HF
end Go.Proofs.Ytbajgbknjmbimab.Di
