/- Data: the document's order, one by one put to its place; pieces of rows. -/
import Derived.Test.YtbpnookejildnaaDoorHiFd
import Derived.Test.YtbpnookejildnaaDoorHiPl
import Derived.Laws.AppendOwnNone
import Derived.Test.YtbpnookejildnaaDoorHiAh
import Derived.Test.YtbpnookejildnaaDoorHiSo
import Derived.Deep.RegionHeld3
namespace Go.Proofs.YtbpnookejildnaaDoor.Hi
open Go.ChangeShapes Go.WideShapes Go.ChangeAt Go.RowKit
set_option linter.unusedVariables false

/-- Where one comes to stand: looked for from a place downward. -/
def atD (L : List Tr) (i : Nat) (o : List Int) : Nat → Nat
  | 0 => 0
  | k + 1 => if aheadD (nt L i) (nt L (ni o k).toNat) = true then atD L i o k else k + 1
theorem atD_le (L : List Tr) (i : Nat) (o : List Int) : ∀ k, atD L i o k ≤ k
  | 0 => Nat.le_refl _
  | k + 1 => by
    unfold atD
    split
    · have := atD_le L i o k; omega
    · exact Nat.le_refl _
def insD (L : List Tr) (i : Nat) (o : List Int) : List Int := o.take (atD L i o o.length) ++ [(i : Int)] ++ o.drop (atD L i o o.length)
def orD (L : List Tr) : Nat → List Int
  | 0 => []
  | n + 1 => insD L n (orD L n)
theorem insD_len (L : List Tr) (i : Nat) (o : List Int) : (insD L i o).length = o.length + 1 := by
  have := atD_le L i o o.length
  simp [insD]; omega
theorem orD_len (L : List Tr) : ∀ n, (orD L n).length = n
  | 0 => rfl
  | n + 1 => by unfold orD; rw [insD_len, orD_len L n]
theorem orD_mem (L : List Tr) : ∀ n x, x ∈ orD L n ↔ ∃ q : Nat, x = (q : Int) ∧ q < n
  | 0, x => by simp [orD]
  | n + 1, x => by
    unfold orD insD
    have h := orD_mem L n x
    have e : x ∈ orD L n ↔ x ∈ (orD L n).take (atD L n (orD L n) (orD L n).length) ∨ x ∈ (orD L n).drop (atD L n (orD L n) (orD L n).length) := by
      rw [← List.mem_append, List.take_append_drop]
    simp only [List.mem_append, List.mem_singleton]
    constructor
    · rintro ((h1 | h1) | h1)
      · obtain ⟨q, hq, hl⟩ := h.1 (e.2 (Or.inl h1)); exact ⟨q, hq, by omega⟩
      · exact ⟨n, h1, by omega⟩
      · obtain ⟨q, hq, hl⟩ := h.1 (e.2 (Or.inr h1)); exact ⟨q, hq, by omega⟩
    · rintro ⟨q, hq, hl⟩
      by_cases hn : q = n
      · subst hn; exact Or.inl (Or.inr hq)
      · rcases e.1 (h.2 ⟨q, hq, by omega⟩) with h1 | h1
        · exact Or.inl (Or.inl h1)
        · exact Or.inr h1
/-- A piece of a row of numbers. -/
def Pz (w : World) (v : Value) (m : Nat) (l : List Int) : Prop := l.length = m ∧ ∃ a cap, v = .slice a m cap ∧ (a = none → m = 0 ∧ cap = 0) ∧ ∀ x, a = some x → ∀ j u, (iC l)[j]? = some u → w.cell? (x.add j) = some u
theorem iC_take (l : List Int) (q : Nat) : iC (l.take q) = (iC l).take q := by simp [iC]
theorem iC_drop (l : List Int) (q : Nat) : iC (l.drop q) = (iC l).drop q := by simp [iC]
theorem iC_app (a b : List Int) : iC (a ++ b) = iC a ++ iC b := by simp [iC]
theorem iC_one (l : List Int) : ∀ u ∈ iC l, u.oneCell' = true := fun u hu => by
  simp [iC] at hu
  obtain ⟨z, _, rfl⟩ := hu
  rfl
theorem addg (g j q : Nat) : (⟨g, q, none⟩ : Addr).add j = ⟨g, q + j, none⟩ := by
  by_cases h : j = 0
  · subst h; rw [add_zero']; rfl
  · rw [add_pos' _ _ (by omega)]
theorem Pz.head {w : World} {B n cap : Nat} {a : Option Addr} {l : List Int} (h : w.ownsRow B 3 1 (.slice a n cap) n (iC l)) {q : Nat} (hq : q ≤ n) : Pz w (.slice a q cap) q (l.take q) := by
  have hl : l.length = n := by have := h.1; rw [iC_len] at this; omega
  refine ⟨by rw [List.length_take]; omega, a, cap, rfl, fun e => ?_, fun x e j u hj => ?_⟩
  · rcases h.2 with ⟨e1, _⟩ | ⟨g, c, cur, e1, _⟩
    · injection e1 with _ e2 e3; omega
    · injection e1 with e2 _ _; rw [e] at e2; cases e2
  · rcases h.2 with ⟨e1, _⟩ | ⟨g, c, cur, e1, _⟩
    · injection e1 with e2 _ _; rw [e] at e2; cases e2
    · injection e1 with e2 e3 e4
      rw [e] at e2
      injection e2 with e2
      subst e2
      subst e
      rw [addg, Nat.zero_add]
      refine own_cells h j u ?_
      rw [iC_take] at hj
      have : j < q := by have := (List.getElem?_eq_some_iff.1 hj).1; rw [List.length_take] at this; omega
      rw [List.getElem?_take, if_pos this] at hj
      exact hj
theorem Pz.tail {w : World} {B n cap g : Nat} {l : List Int} (h : w.ownsRow B 3 1 (.slice (some ⟨g, 0, none⟩) n cap) n (iC l)) {q : Nat} (hq : q ≤ n) (cp : Nat) : Pz w (.slice (some ⟨g, q, none⟩) (n - q) cp) (n - q) (l.drop q) := by
  have hl : l.length = n := by have := h.1; rw [iC_len] at this; omega
  refine ⟨by rw [List.length_drop]; omega, _, cp, rfl, (fun e => by cases e), fun x e j u hj => ?_⟩
  injection e with e
  subst e
  rw [addg]
  rw [iC_drop, List.getElem?_drop] at hj
  exact own_cells h _ u hj
theorem Pz.later {w w' : World} {v : Value} {m : Nat} {l : List Int} (h : Pz w v m l) (hk : ∀ b, v.ownBlock = some b → w'.heap[b]? = w.heap[b]?) : Pz w' v m l := by
  obtain ⟨h1, a, cap, rfl, h2, h3⟩ := h
  refine ⟨h1, a, cap, rfl, h2, fun x e j u hj => ?_⟩
  subst e
  have e : w'.cell? (x.add j) = w.cell? (x.add j) := World.cell?_of_block (by rw [add_block]; exact hk x.block rfl)
  rw [e]
  exact h3 x rfl j u hj
set_option maxRecDepth 100000 in
theorem wpList_append_pz (w : World) {ops : Array Oper} {rest : List Oper} {o : Oper} {a : Act} {Q : Exit → Act → World → Prop} (hgd : o.guard = none) (s x : Operand)
    (ho : o.op = .call { callee := .builtin .append, args := #[s, x], argTypes := #[37, 37] }) (base : Nat) (v : Value) (n : Nat) (xs : List Value) (hs : a.eval s = v) (hown : w.ownsRow base 3 1 v n xs)
    (u : Value) (m : Nat) (l : List Int) (hx : a.eval x = u) (hl : Pz w u m l) (h63 : n + m ≤ 925925926000) (hbase : base ≤ w.heap.size)
    (h : ∀ v' w', w'.ownsRow base 3 1 v' (n + m) (xs ++ iC l) → w.grownBy w' v.ownBlock → wpList Tryd.prog ops Q rest (a.put o.dst v') w') : wpList Tryd.prog ops Q (o :: rest) a w := by
  obtain ⟨i0, hi, hz0, hz1, hz2⟩ := info_parts info_int23
  obtain ⟨hlm, ad, cap, rfl, hnil, hc⟩ := hl
  cases ad with
  | none =>
    obtain ⟨rfl, rfl⟩ := hnil rfl
    obtain rfl : l = [] := List.eq_nil_of_length_eq_zero hlm
    refine wpList_append_own_none hgd s x 37 ho base 3 i0 1 Tryd.underlying37 hi v n xs hs hown hx ?_
    exact h v w (by simpa [iC] using hown) ⟨rfl, rfl, rfl, Nat.le_refl _, fun _ _ _ => rfl⟩
  | some ad =>
    refine wpList_append_own w hgd s x 37 ho base 3 i0 (.int .i64 0) 1 8 Tryd.underlying37 hi hz0 hz1 hz2 rfl (by decide) v n xs hs hown ad m cap (iC l) hx (by rw [iC_len]; omega) (fun j u' hu => hc ad rfl j u' hu) (iC_one l) (by unfold maxLen; omega) (by omega) hbase fun v' w' h1 h2 _ => h v' w' h1 h2
end Go.Proofs.YtbpnookejildnaaDoor.Hi
/- The document's Order. -/
namespace Go.Proofs.YtbpnookejildnaaDoor.Hi
open Go.ChangeShapes Go.WideShapes Go.ChangeAt Go.RowKit
set_option linter.unusedVariables false

/-- What the document's Order tells. -/
def ROrdQ (w : World) (H : List Ev) (e : Ending) (w' : World) : Prop :=
  ((allMay H = false ∧ e = .returned (.tuple #[.slice none 0 0, .int .i64 14])) ∨
   (allMay H = true ∧ ∃ v, e = .returned (.tuple #[v, .int .i64 0]) ∧ w'.ownsRow w.heap.size 3 1 v (cntD H H.length 7 (-1)) (iC (orD (txsD H (cntD H H.length 7 (-1))) (cntD H H.length 7 (-1)))))) ∧ Below w.heap.size w w'
theorem bl_drew0 (w : World) : Below w.heap.size w w.drew := below_drawn (Below.refl _ _) 1
theorem ni_nat {L : List Tr} {n k : Nat} (h : k < n) : ∃ q : Nat, ni (orD L n) k = (q : Int) ∧ q < n :=
  (orD_mem L n _).1 (ni_mem (by rw [orD_len]; exact h))
theorem atD_succ (L : List Tr) (i : Nat) (o : List Int) (k : Nat) : atD L i o (k + 1) = if aheadD (nt L i) (nt L (ni o k).toNat) = true then atD L i o k else k + 1 := rfl
theorem ro_dec {k j : Nat} (h : k = j + 1) (hk : k ≤ 925925926000) : wrap64 ((k : Int) - 1) = (j : Int) ∧ IntKind.i64.wrap ((k : Int) - 1) = (j : Int) := by
  constructor
  · unfold wrap64; omega
  · rw [IntKind.wrap_i64]; omega
set_option maxRecDepth 100000 in
set_option maxHeartbeats 6400000 in
theorem rorder_any {w : World} {v : Value} {H : List Ev} (h : EvL w v H) : Calls Tryd.prog 12 #[v] w (ROrdQ w H) := by
  obtain ⟨i0, hi0, hz0, hz1, hz2⟩ := info_parts info_int23
  have HTX : Hid (Calls Tryd.prog 9 #[v] w (RTxsQ w H)) := rtxs_any h
  have HNM : Hid (cntD H H.length 7 (-1) ≤ 925925926000) := Nat.le_trans (cnt_le _ _ _ _) h.len
  have HLL : Hid ((txsD H (cntD H H.length 7 (-1))).length = cntD H H.length 7 (-1)) := txsD_len _ _
  clear h
  unfold RTxsQ at HTX
  unfold ROrdQ
  generalize hLg : txsD H (cntD H H.length 7 (-1)) = L at *
  clear hLg
  generalize hNg : cntD H H.length 7 (-1) = N at *
  clear hNg
  go_enter Tryd.func12, Tryd.ntmps12
  go_wp2_with fail
  refine HTX.out.mono ?_
  rintro e w1 ⟨hy, hb1⟩
  have HB1 : Hid (Below w.heap.size w w1) := hb1
  rcases hy with ⟨hall, lv, rfl, hown⟩ | ⟨i, hi, _, hno, rfl⟩
  case inr =>
    have HAM : Hid (allMay H = false) := allMay_no hi hno
    clear hb1 HTX
    go_wp2_with fail
    go_ret2
    exact ⟨Or.inl ⟨HAM.out, rfl⟩, HB1.out⟩
  have HAM : Hid (allMay H = true) := allMay_yes hall
  have HOL : Hid (w1.ownsRow w.heap.size 57 6 lv N (t6s L)) := hown
  obtain ⟨la, lc, rfl⟩ := own_slice hown
  clear hall hown hb1 HTX
  go_wp2_with fail
  go_loopw [7, 8] (fun ov iv wr => ∃ i : Nat, i ≤ N ∧ iv = .int .i64 (i : Int) ∧ Hid (wr.ownsRow w1.heap.size 3 1 ov i (iC (orD L i))) ∧ Hid (Below w1.heap.size w1 wr)) (fun _ iv _ => (N - (intOf iv).toNat))
  case atStart => exact ⟨0, Nat.zero_le _, rfl, ⟨rfl, Or.inl ⟨rfl, rfl⟩⟩, Below.refl _ _⟩
  case round =>
    obtain ⟨i, hi, rfl, HO, HB⟩ := hrel
    by_cases hlt : i < N
    · have hid : decide ((i : Int) < (N : Int)) = true := by simp; omega
      have hin : (i : Int) < (N : Int) := by omega
      have HIL : Hid (i < N) := hlt
      have hNM := HNM.out
      have hwi : Hid (wrap64 ((i : Int) + 1) = (i : Int) + 1) := inc_cast HNM.out (Nat.le_of_lt hlt)
      have HMS : Hid (N - (i + 1) < N - i) := by rw [Hid]; omega
      obtain ⟨oa, oc, rfl⟩ := own_slice HO.out
      obtain ⟨x5, rfl⟩ : ∃ x5, x5 = wr := ⟨_, rfl⟩
      clear hi hlt
      go_wp2_with fail
      go_loopw [9] (fun kv wr => ∃ k : Nat, k ≤ i ∧ kv = .int .i64 (k : Int) ∧ Hid (atD L i (orD L i) k = atD L i (orD L i) i) ∧ Hid (Below x5.heap.size x5 wr)) (fun kv _ => ((intOf kv).toNat))
      case atStart => exact ⟨i, Nat.le_refl _, rfl, rfl, Below.refl _ _⟩
      case round =>
        obtain ⟨k, hk, rfl, HAT, HZ⟩ := hrel
        by_cases hk0 : 0 < k
        · obtain ⟨j, hkj⟩ : ∃ j, k = j + 1 := ⟨k - 1, by omega⟩
          have hji : j < i := by omega
          obtain ⟨q, hnq, hqi⟩ := ni_nat (L := L) hji
          have hqN : q < N := by have := HIL.out; omega
          have hd0 : decide ((0 : Int) < (k : Int)) = true := by simp; omega
          have hkz : (0 : Int) < (k : Int) := by omega
          obtain ⟨hw1, hw2⟩ := ro_dec hkj (by have := HIL.out; omega)
          have hjz : (j : Int) < (i : Int) := by omega
          have hqz : (q : Int) < (N : Int) := by omega
          have HOr := own_keep HO.out (Keep.of_below HZ.out []) (by simp)
          have HLr := own_keep HOL.out (Keep.of_below (HB.out.trans (HZ.out.mono HB.out.size)) []) (by simp)
          obtain ⟨g, rfl, _, _, hg1⟩ := row6 HLr HLL.out HIL.out
          obtain ⟨g', hgg, _, _, hg2⟩ := row6 HLr HLL.out hqN
          injection hgg with hgg
          injection hgg with hgg _ _
          subst hgg
          obtain ⟨og, op, hoe, hop, hoc⟩ := own_some1 HOr (by omega)
          injection hoe with hoe1 _ hoe2
          subst hoe1
          subst hoe2
          have co : wr.cell? ⟨og, j, none⟩ = some (.int .i64 (q : Int)) := by rw [← hnq]; exact hoc j _ (iC_get (by rw [orD_len]; exact hji))
          have a0 : wr.cell? ⟨g, i * 6, none⟩ = some (.int .i64 (nt L i).th) := hg1 0 (by decide)
          have a1 : wr.cell? ⟨g, i * 6 + 1, none⟩ = some (.int .i64 (nt L i).bg) := hg1 1 (by decide)
          have a2 : wr.cell? ⟨g, i * 6 + 2, none⟩ = some (.int .i64 (nt L i).en) := hg1 2 (by decide)
          have a3 : wr.cell? ⟨g, i * 6 + 3, none⟩ = some (.int .i64 (nt L i).st) := hg1 3 (by decide)
          have a4 : wr.cell? ⟨g, i * 6 + 4, none⟩ = some (.int .i64 (nt L i).sn) := hg1 4 (by decide)
          have a5 : wr.cell? ⟨g, i * 6 + 5, none⟩ = some (.int .i64 (nt L i).er) := hg1 5 (by decide)
          have b0 : wr.cell? ⟨g, q * 6, none⟩ = some (.int .i64 (nt L q).th) := hg2 0 (by decide)
          have b1 : wr.cell? ⟨g, q * 6 + 1, none⟩ = some (.int .i64 (nt L q).bg) := hg2 1 (by decide)
          have b2 : wr.cell? ⟨g, q * 6 + 2, none⟩ = some (.int .i64 (nt L q).en) := hg2 2 (by decide)
          have b3 : wr.cell? ⟨g, q * 6 + 3, none⟩ = some (.int .i64 (nt L q).st) := hg2 3 (by decide)
          have b4 : wr.cell? ⟨g, q * 6 + 4, none⟩ = some (.int .i64 (nt L q).sn) := hg2 4 (by decide)
          have b5 : wr.cell? ⟨g, q * 6 + 5, none⟩ = some (.int .i64 (nt L q).er) := hg2 5 (by decide)
          have HAH : Hid (∀ w', Calls Tryd.prog 31 #[txV (nt L i), txV (nt L q)] w' fun e w'' => e = .returned (.bool (aheadD (nt L i) (nt L q))) ∧ Below w'.heap.size w' w'') := fun w' => ahead_any w' _ _
          have HYS : Hid (aheadD (nt L i) (nt L q) = true → atD L i (orD L i) j = atD L i (orD L i) i) := fun hh => by
            rw [← HAT.out, hkj, atD_succ, hnq, Int.toNat_natCast, if_pos hh]
          have HNO : Hid (aheadD (nt L i) (nt L q) = false → atD L i (orD L i) i = k) := fun hh => by
            rw [← HAT.out, hkj, atD_succ, hnq, Int.toNat_natCast, if_neg (by rw [hh]; decide)]
          unfold txV at HAH
          generalize aheadD (nt L i) (nt L q) = bb at *
          generalize nt L i = t1 at *
          generalize nt L q = t2 at *
          obtain ⟨th1, bg1, en1, st1, sn1, er1, sg1, ac1⟩ := t1
          obtain ⟨th2, bg2, en2, st2, sn2, er2, sg2, ac2⟩ := t2
          dsimp only at *
          clear hg1 hg2 hoc hnq HLr HOr
          have HKJ : Hid (k = j + 1) := hkj
          have hog : og < wr.heap.size := World.block_lt_of_cell? _ _ co
          have hgl : g < wr.heap.size := World.block_lt_of_cell? _ _ a0
          have HSF : Hid (∀ w', Below wr.heap.size wr w' → w'.cell? ⟨og, j, none⟩ = some (.int .i64 (q : Int)) ∧ w'.cell? ⟨g, i * 6, none⟩ = some (.int .i64 th1) ∧ w'.cell? ⟨g, i * 6 + 1, none⟩ = some (.int .i64 bg1) ∧ w'.cell? ⟨g, i * 6 + 2, none⟩ = some (.int .i64 en1) ∧ w'.cell? ⟨g, i * 6 + 3, none⟩ = some (.int .i64 st1) ∧ w'.cell? ⟨g, i * 6 + 4, none⟩ = some (.int .i64 sn1) ∧ w'.cell? ⟨g, i * 6 + 5, none⟩ = some (.int .i64 er1) ∧ w'.cell? ⟨g, q * 6, none⟩ = some (.int .i64 th2) ∧ w'.cell? ⟨g, q * 6 + 1, none⟩ = some (.int .i64 bg2) ∧ w'.cell? ⟨g, q * 6 + 2, none⟩ = some (.int .i64 en2) ∧ w'.cell? ⟨g, q * 6 + 3, none⟩ = some (.int .i64 st2) ∧ w'.cell? ⟨g, q * 6 + 4, none⟩ = some (.int .i64 sn2) ∧ w'.cell? ⟨g, q * 6 + 5, none⟩ = some (.int .i64 er2)) := fun w' hb => by
            simp only [cell_below hb hog, cell_below hb hgl]
            exact ⟨co, a0, a1, a2, a3, a4, a5, b0, b1, b2, b3, b4, b5⟩
          clear hkj hk0
          go_wp2_with fail
          go_region_held3 (fun w' => w'.cell? ⟨og, j, none⟩ = some (.int .i64 (q : Int)) ∧ w'.cell? ⟨g, i * 6, none⟩ = some (.int .i64 th1) ∧ w'.cell? ⟨g, i * 6 + 1, none⟩ = some (.int .i64 bg1) ∧ w'.cell? ⟨g, i * 6 + 2, none⟩ = some (.int .i64 en1) ∧ w'.cell? ⟨g, i * 6 + 3, none⟩ = some (.int .i64 st1) ∧ w'.cell? ⟨g, i * 6 + 4, none⟩ = some (.int .i64 sn1) ∧ w'.cell? ⟨g, i * 6 + 5, none⟩ = some (.int .i64 er1) ∧ w'.cell? ⟨g, q * 6, none⟩ = some (.int .i64 th2) ∧ w'.cell? ⟨g, q * 6 + 1, none⟩ = some (.int .i64 bg2) ∧ w'.cell? ⟨g, q * 6 + 2, none⟩ = some (.int .i64 en2) ∧ w'.cell? ⟨g, q * 6 + 3, none⟩ = some (.int .i64 st2) ∧ w'.cell? ⟨g, q * 6 + 4, none⟩ = some (.int .i64 sn2) ∧ w'.cell? ⟨g, q * 6 + 5, none⟩ = some (.int .i64 er2))
            (first
              | go_keep
              | exact hS)
            (first
              | (go_at_call 31; refine (HAH.out _).mono ?_; rintro e w3 ⟨rfl, hb3⟩; have hp3 := below_then (bl_drew0 _) hb3; have hS := HSF.out _ hp3))
          cases bb with
          | true =>
            have HA2 : Hid (atD L i (orD L i) j = atD L i (orD L i) i) := HYS.out rfl
            have HZ3 : Hid (Below x5.heap.size x5 w3) := below_then HZ.out hp3
            have HJ2 : Hid (j ≤ i) := Nat.le_of_lt hji
            have HMJ : Hid (j < k) := by rw [Hid, HKJ.out]; omega
            clear hb3 hp3 hS HYS HNO HAH HSF co a0 a1 a2 a3 a4 a5 b0 b1 b2 b3 b4 b5
            go_wp2_with fail
            go_roundw
            case rel => exact ⟨j, HJ2.out, by first | rfl | rw [hw1], HA2, HZ3⟩
            case measure => first | (rw [hw1]; simpa [intOf] using HMJ.out) | (simpa [intOf] using HMJ.out)
          | false =>
            have HP : Hid (atD L i (orD L i) i = k) := HNO.out rfl
            have HZ3 : Hid (Below x5.heap.size x5 w3) := below_then HZ.out hp3
            have HPI : Hid (k ≤ i) := hk
            clear hb3 hp3 hS HYS HNO HAH HSF co a0 a1 a2 a3 a4 a5 b0 b1 b2 b3 b4 b5 HKJ hji hjz hqi hqN hqz hkz hd0 hw1 hw2 HAT hog hgl
            obtain ⟨x6, rfl⟩ : ∃ x6, x6 = w3 := ⟨_, rfl⟩
            have HOX : Hid (x6.ownsRow w1.heap.size 3 1 (.slice (some ⟨og, 0, none⟩) i oc) i (iC (orD L i))) := own_keep HO.out (Keep.of_below HZ3.out []) (by simp)
            have HXS : Hid (w1.heap.size ≤ x6.heap.size) := Nat.le_trans HB.out.size HZ3.out.size
            have hPc : k ≤ oc := by
              have := HPI.out
              rcases HOX.out.2 with ⟨e1, e2⟩ | ⟨g, c, cur, e1, _, _, hc, _⟩
              · omega
              · injection e1 with _ _ e3; omega
            have HIC : Hid (i ≤ oc) := by
              rcases HOX.out.2 with ⟨e1, e2⟩ | ⟨g, c, cur, e1, _, _, hc, _⟩
              · show i ≤ oc; omega
              · (injection e1 with _ _ e3) <;> (show i ≤ oc; omega)
            have hPi := HPI.out
            have hiN := HIL.out
            go_wp2_with (at_builtin; refine wpList_append_pz _ rfl _ _ rfl x6.heap.size (.slice none 0 0) 0 [] rfl (own_nil _ _ _ _) _ k ((orD L i).take k) rfl (Pz.head HOX.out HPI.out) (by omega) (Nat.le_refl _) ?_)
            intro v6 w6 ho6 hg6
            have HO6 : Hid (w6.ownsRow x6.heap.size 3 1 v6 k (iC ((orD L i).take k))) := by rw [Hid]; simpa using ho6
            have k6 : Keep [] x6 w6 := (Keep.refl [] x6).grown hg6 (fun b hb => by cases hb)
            have HOX6 : Hid (w6.ownsRow w1.heap.size 3 1 (.slice (some ⟨og, 0, none⟩) i oc) i (iC (orD L i))) := own_keep HOX.out k6 (by simp)
            have HB6 : Hid (Below x6.heap.size x6 w6) := k6.below (Nat.le_refl _) (by simp)
            have hs6 : x6.heap.size ≤ w6.heap.size := k6.size
            obtain ⟨a6, c6, rfl⟩ := own_slice HO6.out
            have hx6 : (iC ((orD L i).take k)).length = k := by have := HO6.out.1; omega
            clear ho6 hg6 k6
            go_wp2_with (at_builtin; refine list_lies_wide _ rfl _ _ 37 rfl x6.heap.size 3 i0 _ 1 8 Tryd.underlying37 hi0 hz0 hz1 hz2 rfl (by decide) _ _ _ rfl (HO6.out.alloc _) ⟨w6.heap.size, 0, none⟩ 1 1 [.int .i64 (i : Int)] rfl rfl (World.news_of_block (cs := #[.int .i64 (i : Int)]) (t := 3) (fr := (0, 0)) (heap_alloc_new w6 _)) (by simp [Value.oneCell']) (by decide) (by unfold maxLen; omega) (by omega) (by simp; omega) _ rfl ?_)
            intro gg cap2 w7 hown7 hgrow hat hlt7
            have k7 : Keep (Value.slice a6 k c6).ownBlock.toList w6 w7 := (((Keep.refl [] w6).alloc _).mono (by simp)).grown hgrow (fun b hb => Or.inl (by rw [hb]; simp))
            have HO7 : Hid (w7.ownsRow x6.heap.size 3 1 (.slice (some ⟨gg, 0, none⟩) (k + 1) cap2) (k + 1) (iC ((orD L i).take k ++ [(i : Int)]))) := by rw [Hid, iC_app]; exact hown7
            have HOX7 : Hid (w7.ownsRow w1.heap.size 3 1 (.slice (some ⟨og, 0, none⟩) i oc) i (iC (orD L i))) := own_keep HOX6.out k7 (fun b hb hm => by
              have h1 := (own_block HOX.out b hb).2
              have h2 := (own_block HO6.out b (by simpa using hm)).1
              omega)
            have HB7 : Hid (Below x6.heap.size x6 w7) := HB6.out.trans (k7.below hs6 (fun b hb => (own_block HO6.out b (by simpa using hb)).1))
            have hs7 : x6.heap.size ≤ w7.heap.size := HB7.out.size
            clear k7 hown7 hgrow hat hlt7 hx6 HOX6 HO6 HB6
            have HFIN : Hid (∀ v8 w8, w8.ownsRow x6.heap.size 3 1 v8 (k + 1 + (i - k)) (iC ((orD L i).take k ++ [(i : Int)]) ++ iC ((orD L i).drop k)) → w7.grownBy w8 (some gg) → Hid (w8.ownsRow w1.heap.size 3 1 v8 (i + 1) (iC (orD L (i + 1)))) ∧ Hid (Below w1.heap.size w1 w8)) := fun v8 w8 ho hg => by
              have k8 : Keep [gg] w7 w8 := ((Keep.refl [] w7).mono (by simp)).grown hg (fun b hb => Or.inl (by cases hb; simp))
              have hgg : x6.heap.size ≤ gg := (own_block HO7.out gg rfl).1
              have hpi := HPI.out
              refine ⟨?_, HB.out.trans ((HZ3.out.trans ((HB7.out.trans (k8.below hs7 (by simpa using hgg))).mono HZ3.out.size)).mono HB.out.size)⟩
              have e : orD L (i + 1) = (orD L i).take k ++ [(i : Int)] ++ (orD L i).drop k := by
                show insD L i (orD L i) = _
                unfold insD
                rw [orD_len, HP.out]
              rw [Hid, e, iC_app _ ((orD L i).drop k)]
              have hh := own_base ho HXS.out
              rwa [show k + 1 + (i - k) = i + 1 by omega] at hh
            have HPZ : Hid (∀ cp, Pz w7 (.slice (some ⟨og, k, none⟩) (i - k) cp) (i - k) ((orD L i).drop k)) := fun cp => Pz.tail HOX7.out HPI.out cp
            by_cases hoc : oc = k
            · have HZ0 : Hid (∀ x, Pz w7 (.slice (some x) (i - k) 0) (i - k) ((orD L i).drop k)) := fun x => by
                have := HIC.out
                refine ⟨by rw [List.length_drop, orD_len], _, _, rfl, (fun e => by injection e), fun y _ j u hu => ?_⟩
                rw [List.drop_of_length_le (by rw [orD_len]; omega)] at hu
                cases hu
              clear HOX HOX7 HPZ
              go_wp2_with (at_builtin; refine wpList_append_pz _ rfl _ _ rfl x6.heap.size _ (k + 1) _ rfl HO7.out _ (i - k) _ rfl (HZ0.out _) (by omega) hs7 ?_)
              intro v8 w8 ho8 hg8
              obtain ⟨HO9, HB9⟩ := HFIN.out _ _ ho8 hg8
              clear ho8 hg8 HO7 HFIN
              go_wp2_with fail
              go_roundw
              case rel => exact ⟨i + 1, HIL.out, by first | (rw [hwi.out]; go_num) | go_num, HO9, HB9⟩
              case measure => first | (rw [hwi.out]; simpa [intOf] using HMS.out) | (simpa [intOf] using HMS.out)
            · clear HOX HOX7
              go_wp2_with (at_builtin; refine wpList_append_pz _ rfl _ _ rfl x6.heap.size _ (k + 1) _ rfl HO7.out _ (i - k) _ rfl (HPZ.out _) (by omega) hs7 ?_)
              intro v8 w8 ho8 hg8
              obtain ⟨HO9, HB9⟩ := HFIN.out _ _ ho8 hg8
              clear ho8 hg8 HO7 HFIN
              go_wp2_with fail
              go_roundw
              case rel => exact ⟨i + 1, HIL.out, by first | (rw [hwi.out]; go_num) | go_num, HO9, HB9⟩
              case measure => first | (rw [hwi.out]; simpa [intOf] using HMS.out) | (simpa [intOf] using HMS.out)
        · have HP : Hid (atD L i (orD L i) i = k) := by
            have hk1 : k = 0 := by omega
            rw [Hid, ← HAT.out, hk1]; rfl
          have HPI : Hid (k ≤ i) := hk
          have HZ3 : Hid (Below x5.heap.size x5 wr) := HZ
          have hd0 : decide ((0 : Int) < (k : Int)) = false := by simp; omega
          have hd1 : decide (0 < k) = false := by simp; omega
          have hk1 : ¬ (0 : Int) < (k : Int) := by omega
          obtain ⟨x6, rfl⟩ : ∃ x6, x6 = wr := ⟨_, rfl⟩
          clear hk HAT HZ
          rcases HO.out.2 with ⟨e1, e2⟩ | ⟨og, c, cur, e1, _, _, _, _⟩
          · injection e1 with e3 e4 e5
            subst e3
            subst e5
            subst e2
            obtain rfl : k = 0 := by have := HPI.out; omega
            have HXS : Hid (w1.heap.size ≤ x6.heap.size) := Nat.le_trans HB.out.size HZ3.out.size
            go_wp2_with (at_builtin; refine list_lies_wide _ rfl _ _ 37 rfl x6.heap.size 3 i0 _ 1 8 Tryd.underlying37 hi0 hz0 hz1 hz2 rfl (by decide) (.slice none 0 0) 0 [] rfl ((own_nil x6 x6.heap.size 3 1).alloc _) ⟨x6.heap.size, 0, none⟩ 1 1 [.int .i64 0] rfl rfl (World.news_of_block (cs := #[.int .i64 0]) (t := 3) (fr := (0, 0)) (heap_alloc_new x6 _)) (by simp [Value.oneCell']) (by decide) (by unfold maxLen; omega) (by omega) (by simp) _ rfl ?_)
            intro gg cap2 w7 hown7 hgrow hat hlt7
            have k7 : Keep [] x6 w7 := ((Keep.refl [] x6).alloc _).grown hgrow (fun b hb => by cases hb)
            have HO7 : Hid (w7.ownsRow x6.heap.size 3 1 (.slice (some ⟨gg, 0, none⟩) (0 + 1) cap2) (0 + 1) (iC (orD L (0 + 1)))) := hown7
            have HB7 : Hid (Below x6.heap.size x6 w7) := k7.below (Nat.le_refl _) (by simp)
            clear k7 hown7 hgrow hat hlt7
            go_wp2_with (at_builtin; refine wpList_append_pz _ rfl _ _ rfl x6.heap.size _ 1 _ rfl HO7.out (.slice none 0 0) 0 [] rfl ⟨rfl, _, _, rfl, (fun _ => ⟨rfl, rfl⟩), fun x h => by cases h⟩ (by omega) HB7.out.size ?_)
            intro v8 w8 ho8 hg8
            have HO9 : Hid (w8.ownsRow w1.heap.size 3 1 v8 (0 + 1) (iC (orD L (0 + 1)))) := own_base (by simpa [iC] using ho8) HXS.out
            have HB9 : Hid (Below w1.heap.size w1 w8) := by
              have k8 : Keep [gg] w7 w8 := ((Keep.refl [] w7).mono (by simp)).grown hg8 (fun b hb => Or.inl (by cases hb; simp))
              have hgg : x6.heap.size ≤ gg := (own_block HO7.out gg rfl).1
              exact HB.out.trans ((HZ3.out.trans ((HB7.out.trans (k8.below HB7.out.size (by simpa using hgg))).mono HZ3.out.size)).mono HB.out.size)
            clear ho8 hg8 HO7
            go_wp2_with fail
            go_roundw
            case rel => exact ⟨0 + 1, HIL.out, by first | rfl | (rw [hwi.out]; go_num) | go_num, HO9, HB9⟩
            case measure => first | (rw [hwi.out]; simpa [intOf] using HMS.out) | (simpa [intOf] using HMS.out)
          · injection e1 with e3 _ e5
            subst e3
            obtain rfl : oc = c := e5
            have HOX : Hid (x6.ownsRow w1.heap.size 3 1 (.slice (some ⟨og, 0, none⟩) i oc) i (iC (orD L i))) := own_keep HO.out (Keep.of_below HZ3.out []) (by simp)
            have HXS : Hid (w1.heap.size ≤ x6.heap.size) := Nat.le_trans HB.out.size HZ3.out.size
            have hPc : k ≤ oc := by
              have := HPI.out
              rcases HOX.out.2 with ⟨e1, e2⟩ | ⟨g, c, cur, e1, _, _, hc, _⟩
              · omega
              · injection e1 with _ _ e3; omega
            have HIC : Hid (i ≤ oc) := by
              rcases HOX.out.2 with ⟨e1, e2⟩ | ⟨g, c, cur, e1, _, _, hc, _⟩
              · show i ≤ oc; omega
              · (injection e1 with _ _ e3) <;> (show i ≤ oc; omega)
            have hPi := HPI.out
            have hiN := HIL.out
            go_wp2_with (at_builtin; refine wpList_append_pz _ rfl _ _ rfl x6.heap.size (.slice none 0 0) 0 [] rfl (own_nil _ _ _ _) _ k ((orD L i).take k) rfl (Pz.head HOX.out HPI.out) (by omega) (Nat.le_refl _) ?_)
            intro v6 w6 ho6 hg6
            have HO6 : Hid (w6.ownsRow x6.heap.size 3 1 v6 k (iC ((orD L i).take k))) := by rw [Hid]; simpa using ho6
            have k6 : Keep [] x6 w6 := (Keep.refl [] x6).grown hg6 (fun b hb => by cases hb)
            have HOX6 : Hid (w6.ownsRow w1.heap.size 3 1 (.slice (some ⟨og, 0, none⟩) i oc) i (iC (orD L i))) := own_keep HOX.out k6 (by simp)
            have HB6 : Hid (Below x6.heap.size x6 w6) := k6.below (Nat.le_refl _) (by simp)
            have hs6 : x6.heap.size ≤ w6.heap.size := k6.size
            obtain ⟨a6, c6, rfl⟩ := own_slice HO6.out
            have hx6 : (iC ((orD L i).take k)).length = k := by have := HO6.out.1; omega
            clear ho6 hg6 k6
            go_wp2_with (at_builtin; refine list_lies_wide _ rfl _ _ 37 rfl x6.heap.size 3 i0 _ 1 8 Tryd.underlying37 hi0 hz0 hz1 hz2 rfl (by decide) _ _ _ rfl (HO6.out.alloc _) ⟨w6.heap.size, 0, none⟩ 1 1 [.int .i64 (i : Int)] rfl rfl (World.news_of_block (cs := #[.int .i64 (i : Int)]) (t := 3) (fr := (0, 0)) (heap_alloc_new w6 _)) (by simp [Value.oneCell']) (by decide) (by unfold maxLen; omega) (by omega) (by simp; omega) _ rfl ?_)
            intro gg cap2 w7 hown7 hgrow hat hlt7
            have k7 : Keep (Value.slice a6 k c6).ownBlock.toList w6 w7 := (((Keep.refl [] w6).alloc _).mono (by simp)).grown hgrow (fun b hb => Or.inl (by rw [hb]; simp))
            have HO7 : Hid (w7.ownsRow x6.heap.size 3 1 (.slice (some ⟨gg, 0, none⟩) (k + 1) cap2) (k + 1) (iC ((orD L i).take k ++ [(i : Int)]))) := by rw [Hid, iC_app]; exact hown7
            have HOX7 : Hid (w7.ownsRow w1.heap.size 3 1 (.slice (some ⟨og, 0, none⟩) i oc) i (iC (orD L i))) := own_keep HOX6.out k7 (fun b hb hm => by
              have h1 := (own_block HOX.out b hb).2
              have h2 := (own_block HO6.out b (by simpa using hm)).1
              omega)
            have HB7 : Hid (Below x6.heap.size x6 w7) := HB6.out.trans (k7.below hs6 (fun b hb => (own_block HO6.out b (by simpa using hb)).1))
            have hs7 : x6.heap.size ≤ w7.heap.size := HB7.out.size
            clear k7 hown7 hgrow hat hlt7 hx6 HOX6 HO6 HB6
            have HFIN : Hid (∀ v8 w8, w8.ownsRow x6.heap.size 3 1 v8 (k + 1 + (i - k)) (iC ((orD L i).take k ++ [(i : Int)]) ++ iC ((orD L i).drop k)) → w7.grownBy w8 (some gg) → Hid (w8.ownsRow w1.heap.size 3 1 v8 (i + 1) (iC (orD L (i + 1)))) ∧ Hid (Below w1.heap.size w1 w8)) := fun v8 w8 ho hg => by
              have k8 : Keep [gg] w7 w8 := ((Keep.refl [] w7).mono (by simp)).grown hg (fun b hb => Or.inl (by cases hb; simp))
              have hgg : x6.heap.size ≤ gg := (own_block HO7.out gg rfl).1
              have hpi := HPI.out
              refine ⟨?_, HB.out.trans ((HZ3.out.trans ((HB7.out.trans (k8.below hs7 (by simpa using hgg))).mono HZ3.out.size)).mono HB.out.size)⟩
              have e : orD L (i + 1) = (orD L i).take k ++ [(i : Int)] ++ (orD L i).drop k := by
                show insD L i (orD L i) = _
                unfold insD
                rw [orD_len, HP.out]
              rw [Hid, e, iC_app _ ((orD L i).drop k)]
              have hh := own_base ho HXS.out
              rwa [show k + 1 + (i - k) = i + 1 by omega] at hh
            have HPZ : Hid (∀ cp, Pz w7 (.slice (some ⟨og, k, none⟩) (i - k) cp) (i - k) ((orD L i).drop k)) := fun cp => Pz.tail HOX7.out HPI.out cp
            by_cases hoc : oc = k
            · have HZ0 : Hid (∀ x, Pz w7 (.slice (some x) (i - k) 0) (i - k) ((orD L i).drop k)) := fun x => by
                have := HIC.out
                refine ⟨by rw [List.length_drop, orD_len], _, _, rfl, (fun e => by injection e), fun y _ j u hu => ?_⟩
                rw [List.drop_of_length_le (by rw [orD_len]; omega)] at hu
                cases hu
              clear HOX HOX7 HPZ
              go_wp2_with (at_builtin; refine wpList_append_pz _ rfl _ _ rfl x6.heap.size _ (k + 1) _ rfl HO7.out _ (i - k) _ rfl (HZ0.out _) (by omega) hs7 ?_)
              intro v8 w8 ho8 hg8
              obtain ⟨HO9, HB9⟩ := HFIN.out _ _ ho8 hg8
              clear ho8 hg8 HO7 HFIN
              go_wp2_with fail
              go_roundw
              case rel => exact ⟨i + 1, HIL.out, by first | (rw [hwi.out]; go_num) | go_num, HO9, HB9⟩
              case measure => first | (rw [hwi.out]; simpa [intOf] using HMS.out) | (simpa [intOf] using HMS.out)
            · clear HOX HOX7
              go_wp2_with (at_builtin; refine wpList_append_pz _ rfl _ _ rfl x6.heap.size _ (k + 1) _ rfl HO7.out _ (i - k) _ rfl (HPZ.out _) (by omega) hs7 ?_)
              intro v8 w8 ho8 hg8
              obtain ⟨HO9, HB9⟩ := HFIN.out _ _ ho8 hg8
              clear ho8 hg8 HO7 HFIN
              go_wp2_with fail
              go_roundw
              case rel => exact ⟨i + 1, HIL.out, by first | (rw [hwi.out]; go_num) | go_num, HO9, HB9⟩
              case measure => first | (rw [hwi.out]; simpa [intOf] using HMS.out) | (simpa [intOf] using HMS.out)
    · obtain rfl : i = N := by omega
      have hid : decide ((i : Int) < (i : Int)) = false := by simp
      clear hi hlt
      go_wp2_with fail
      go_ret2
      exact ⟨Or.inr ⟨HAM.out, _, rfl, own_base HO.out HB1.out.size⟩, HB1.out.trans (HB.out.mono HB1.out.size)⟩
end Go.Proofs.YtbpnookejildnaaDoor.Hi
