/- A step done by both: one; steps: plays. -/
import Derived.Test.YtgbmnngmfcneaaaPlO
import Derived.Test.YtgbmnngmfcneaaaPmU
namespace Go.Proofs.Ytgbmnngmfcneaaa.Pl
open Go.ChangeShapes Go.WideShapes Go.ChangeAt Go.RowKit
attribute [local go_sem ↓] Go.wp_at_zero Go.wp_at_succ

def stR (raw : List Int) (s : Stp) : List Int := if s.k = 1 then setR raw s.p s.v else raw
def stC (cs : List Co) (s : Stp) : List Co := if s.k = 0 ∨ s.k = 1 ∨ s.k = 2 ∨ s.k = 3 then cs else (callS cs s.r s.c s.a).2
theorem nl_keep0 {w w' : World} {F : List Nat} {v : Value} {l : List Int} (h : Nl w v l) (hk : Keep F w w') (hF : l.length ≠ 0 → ∀ a n c, v = .slice (some a) n c → a.block ∉ F) : Nl w' v l := by
  by_cases h0 : l.length = 0
  · obtain ⟨a, cap, h1, h2, h3, h4, h5, _⟩ := h
    exact ⟨a, cap, h1, h2, h3, h4, h5, Or.inl h0⟩
  · exact h.keep hk (hF h0)
/-- What is behind a step. -/
def After (w : World) (K : List Nat) (B X Y : Nat) (Z : List Nat) (raw : List Int) (cs : List Co) : Ending → World → Prop := fun e w' => e = .returned (.bool true) ∧ ∃ F' G', Du w' B X F' Y G' Z raw cs ∧ Below B w w' ∧ Next K (F' ++ G') w w'
theorem Next.two {F F' G G' : List Nat} {w w0 w1 w2 : World} (hb : Below w.heap.size w w0) (h : Next F F' w0 w1) (k : Next G G' w1 w2) : Next (F ++ G) (F' ++ G') w w2 := (Next.of_below hb _).trans ((Next.left h).trans (Next.right k))
theorem Du.bel {w w' : World} {B X : Nat} {F F' : List Nat} {Y : Nat} {G Z : List Nat} {raw : List Int} {cs : List Co} (h : Du w B X F Y G Z raw cs) (hn : Next F F' w w') : Below B w w' := hn.below h.wB (fun b hb => (h.s.lo b hb).1)
set_option maxRecDepth 100000 in
theorem one_any {w : World} {B X : Nat} {F : List Nat} {Y : Nat} {G Z : List Nat} {raw : List Int} {cs : List Co} {s : Stp} {u : Value} (h : Du w B X F Y G Z raw cs) (hn : Nl w u s.a) (hu : s.a.length ≠ 0 → ∀ x n cp, u = .slice (some x) n cp → x.block < B) (hv : Sx s.v) :
    Calls Try.prog 23 #[.pointer (some ⟨X, 0, none⟩), .pointer (some ⟨Y, 0, none⟩), .agg #[.int .i64 s.k, .int .i64 s.p, .int .i64 s.v, .int .i64 s.r, .int .i64 s.c, u]] w (After w (F ++ G) B X Y Z (stR raw s) (stC cs s)) := by
  obtain ⟨k, p, v, r, c, a⟩ := s
  dsimp only at *
  obtain ⟨ua, uc, hus⟩ := nl_slice hn
  have HB0 : Hid (∀ w', Below w.heap.size w w' → Below B w w') := fun w' hb => hb.mono h.wB
  by_cases k0 : k = 0
  · subst k0
    have H1 : Hid (∀ w', Below w.heap.size w w' → Calls Try.prog 20 #[.pointer (some ⟨X, 0, none⟩), .int .i64 p] w' fun e w'' => e = .returned (.int .i64 (nth raw (plc raw p))) ∧ Below w'.heap.size w' w'') := fun w' hb => load_any (h.s.later hb) p
    have H2 : Hid (∀ w', Below w.heap.size w w' → Calls Try.prog 42 #[.pointer (some ⟨Y, 0, none⟩), .int .i64 p] w' fun e w'' => e = .returned (.int .i64 (nth raw (plc raw p))) ∧ Below w'.heap.size w' w'') := fun w' hb => rload_any (h.d.later hb) p
    have HD : Hid (∀ w', Below w.heap.size w w' → After w (F ++ G) B X Y Z (stR raw ⟨0, p, v, r, c, a⟩) (stC cs ⟨0, p, v, r, c, a⟩) (.returned (.bool true)) w') := fun w' hb => ⟨rfl, F, G, h.later hb, hb.mono h.wB, Next.of_below hb _⟩
    generalize nth raw (plc raw p) = z at *
    clear h hn hu hv
    subst hus
    go_enter Try.func23, Try.ntmps23
    go_wp2_with fail
    refine (H1.out _ (below_a1 _ _)).mono ?_
    rintro e w1 ⟨rfl, hb⟩
    have HB1 : Hid (Below w.heap.size w w1) := below_then (below_a1 _ _) hb
    have hr := row_next hb
    have c1 : w1.cell? ⟨w.heap.size, 1, none⟩ = some (.int .i64 p) := (cell_at hr 1).trans rfl
    clear hb hr
    go_wp2_with fail
    refine (H2.out _ HB1.out).mono ?_
    rintro e w2 ⟨rfl, hb2⟩
    have HF := HD.out w2 (below_then HB1.out hb2)
    have HFF : Hid (After w (F ++ G) B X Y Z (stR raw ⟨0, p, v, r, c, a⟩) (stC cs ⟨0, p, v, r, c, a⟩) (.returned (.bool true)) w2) := HF
    clear hb2 HF HD
    go_wp2_with fail
    go_ret
    first | exact HFF.out | simpa using HFF.out
  · by_cases k1 : k = 1
    · subst k1
      have H1 : Hid (∀ w', Below w.heap.size w w' → Calls Try.prog 19 #[.pointer (some ⟨X, 0, none⟩), .int .i64 p, .int .i64 v] w' fun e w'' => e = .returned (.tuple #[]) ∧ StAt w'' B X F (setR raw p v) cs ∧ Next F F w' w'') := fun w' hb => store_any (h.s.later hb) p v hv
      have H2 : Hid (∀ w' w1, Below w.heap.size w w' → Next F F w' w1 → Calls Try.prog 43 #[.pointer (some ⟨Y, 0, none⟩), .int .i64 p, .int .i64 v] w1 fun e w'' => e = .returned (.tuple #[]) ∧ DtAt w'' B Y G Z (setR raw p v) cs ∧ Next G G w1 w'') := fun w' w1 hb hx => rstore_any ((h.later hb).goS hx).1 p v hv
      have HD : Hid (∀ w' w1 w2, Below w.heap.size w w' → StAt w1 B X F (setR raw p v) cs → Next F F w' w1 → DtAt w2 B Y G Z (setR raw p v) cs → Next G G w1 w2 → After w (F ++ G) B X Y Z (stR raw ⟨1, p, v, r, c, a⟩) (stC cs ⟨1, p, v, r, c, a⟩) (.returned (.bool true)) w2) := fun w' w1 w2 hb hs hx hd hm => ⟨rfl, F, G, (h.later hb).go hs hx hd hm, ((hb.mono h.wB).trans ((h.later hb).bel hx)).trans (hm.below ((h.later hb).goS hx).2.2.2 (fun b hb => (h.d.lo.1 b hb).1)), Next.two hb hx hm⟩
      have hXl : X < w.heap.size := by
        obtain ⟨_, _, _, _, hs⟩ := h.s
        exact heap_lt hs.hX
      have HLO : Hid (∀ b ∈ F, b < w.heap.size) := fun b hb => (h.s.lo b hb).2
      clear h hn hu hv hXl
      subst hus
      go_enter Try.func23, Try.ntmps23
      go_wp2_with fail
      refine (H1.out _ (below_a1 _ _)).mono ?_
      rintro e w1 ⟨rfl, hst, hx⟩
      have hr : w1.heap[w.heap.size]? = some (.cells #[.int .i64 1, .int .i64 p, .int .i64 v, .int .i64 r, .int .i64 c, .slice ua a.length uc] 39 (0, 0)) := (hx.1.block _ (by simp) (fun hm => Nat.lt_irrefl _ (HLO.out _ hm))).trans (heap_alloc_new _ _)
      have c1 : w1.cell? ⟨w.heap.size, 1, none⟩ = some (.int .i64 p) := (cell_at hr 1).trans rfl
      have c2 : w1.cell? ⟨w.heap.size, 2, none⟩ = some (.int .i64 v) := (cell_at hr 2).trans rfl
      have HC := H2.out _ w1 (below_a1 _ _) hx
      have HCC : Hid (Calls Try.prog 43 #[.pointer (some ⟨Y, 0, none⟩), .int .i64 p, .int .i64 v] w1 fun e w'' => e = .returned (.tuple #[]) ∧ DtAt w'' B Y G Z (setR raw p v) cs ∧ Next G G w1 w'') := HC
      have HDD : Hid (∀ w2, DtAt w2 B Y G Z (setR raw p v) cs → Next G G w1 w2 → After w (F ++ G) B X Y Z (stR raw ⟨1, p, v, r, c, a⟩) (stC cs ⟨1, p, v, r, c, a⟩) (.returned (.bool true)) w2) := fun w2 => HD.out _ w1 w2 (below_a1 _ _) hst hx
      clear hst hx hr HC H1 H2 HD
      go_wp2_with fail
      refine HCC.out.mono ?_
      rintro e w2 ⟨rfl, hd, hm⟩
      have HFF : Hid (After w (F ++ G) B X Y Z (stR raw ⟨1, p, v, r, c, a⟩) (stC cs ⟨1, p, v, r, c, a⟩) (.returned (.bool true)) w2) := HDD.out w2 hd hm
      clear hd hm HDD HCC
      go_wp2_with fail
      go_ret
      exact HFF.out
    · have e0 : (k == 0) = false := beq_eq_false_iff_ne.2 k0
      have e1 : (k == 1) = false := beq_eq_false_iff_ne.2 k1
      obtain ⟨C, vr0, rv, cv, V, P, hdr, hlen⟩ := id h.d
      obtain ⟨_, h7, h8⟩ := hdr.cells
      have hYl := heap_lt hdr.hX
      by_cases k2 : k = 2
      · subst k2
        have HD : Hid (∀ w', Below w.heap.size w w' → After w (F ++ G) B X Y Z (stR raw ⟨2, p, v, r, c, a⟩) (stC cs ⟨2, p, v, r, c, a⟩) (.returned (.bool true)) w') := fun w' hb => ⟨rfl, F, G, h.later hb, hb.mono h.wB, Next.of_below hb _⟩
        have H1 : Hid (∀ w', Below w.heap.size w w' → Calls Try.prog 17 #[.pointer (some ⟨X, 0, none⟩)] w' fun e w'' => ∃ u, e = .returned u ∧ w''.ownsRow w'.heap.size 2 1 u raw.length (numC raw) ∧ Below w'.heap.size w' w'') := fun w' hb => raw_any (h.s.later hb)
        have h64 := hdr.r64
        have HN : Hid (Nl w rv raw) := Nl.of_own hdr.rr (by omega) hdr.rs
        have HRS : Hid (raw.length ≤ 64 ∧ ∀ x ∈ raw, Sx x) := ⟨hdr.r64, hdr.rs⟩
        have H2 : Hid (∀ w' u, Below w.heap.size w w' → Nl w' u raw → Calls Try.prog 16 #[u, rv] w' fun e w'' => e = .returned (.bool true) ∧ Below w'.heap.size w' w'') := fun w' u hb hu => by have := same_any hu (HN.out.later hb (Nat.le_refl _)); simpa using this
        obtain ⟨ra, rc, rfl⟩ := own_slice hdr.rr
        clear h hn hu hv hdr h64 hlen h8 k0 k1
        subst hus
        go_enter Try.func23, Try.ntmps23
        go_wp2_with fail
        have h7' : (w.alloc (.cells #[.int .i64 2, .int .i64 p, .int .i64 v, .int .i64 r, .int .i64 c, .slice ua a.length uc] 39)).cell? ⟨Y, 7, none⟩ = some (.slice ra raw.length rc) := cell_later (below_a1 _ _) (a := ⟨Y, 7, none⟩) hYl h7
        have HBZ : Hid (Below w.heap.size w (w.alloc (.cells #[.int .i64 2, .int .i64 p, .int .i64 v, .int .i64 r, .int .i64 c, .slice ua a.length uc] 39))) := below_a1 _ _
        generalize (w.alloc (.cells #[.int .i64 2, .int .i64 p, .int .i64 v, .int .i64 r, .int .i64 c, .slice ua a.length uc] 39)) = wz at *
        have hYz : Y < wz.heap.size := World.block_lt_of_cell? _ _ h7'
        clear h7 hYl
        go_region_with (first
          | (go_at_call 17; refine (H1.out _ (by first | exact below_drawn HBZ.out 1 | exact HBZ.out)).mono ?_; rintro e w1 ⟨u, rfl, ho, hb⟩; have hbw : Below wz.heap.size wz w1 := (by first | exact below_then (below_drawn (Below.refl _ _) 1) hb | exact hb); have s7 : w1.cell? ⟨Y, 7, none⟩ = some (.slice ra raw.length rc) := cell_later hbw (a := ⟨Y, 7, none⟩) hYz h7'; have hn1 : Nl w1 u raw := Nl.of_own ho (by have := HRS.out.1; omega) HRS.out.2; obtain ⟨xa, xc, rfl⟩ := own_slice ho)
          | (go_at_call 16; refine (H2.out _ _ (below_then HBZ.out hbw) hn1).mono ?_; rintro e w2 ⟨rfl, hb2⟩; have HFF : Hid (After w (F ++ G) B X Y Z (stR raw ⟨2, p, v, r, c, a⟩) (stC cs ⟨2, p, v, r, c, a⟩) (.returned (.bool true)) w2) := HD.out w2 (below_then (below_then HBZ.out hbw) hb2)))
        all_goals
          clear hb hbw s7 hn1 ho hb2 H1 H2 HD
          go_wp2_with fail
          go_ret
          exact HFF.out
      · have e2 : (k == 2) = false := beq_eq_false_iff_ne.2 k2
        by_cases k3 : k = 3
        · subst k3
          have HD : Hid (∀ w', Below w.heap.size w w' → After w (F ++ G) B X Y Z (stR raw ⟨3, p, v, r, c, a⟩) (stC cs ⟨3, p, v, r, c, a⟩) (.returned (.bool true)) w') := fun w' hb => ⟨rfl, F, G, h.later hb, hb.mono h.wB, Next.of_below hb _⟩
          have H1 : Hid (∀ w', Below w.heap.size w w' → Calls Try.prog 18 #[.pointer (some ⟨X, 0, none⟩)] w' fun e w'' => ∃ v V P G, e = .returned v ∧ ShO w'' w'.heap.size G v cs V P ∧ Below w'.heap.size w' w'') := fun w' hb => shapes_any (h.s.later hb)
          have HN : Hid (ShL w cv cs) := shl_of hdr.cr hdr.rows
          have HCO : Hid (cs.length ≤ 8 ∧ ∀ i, i < cs.length → CoOk (nthC cs i)) := ⟨hdr.c8, hdr.rows.ok⟩
          have H2 : Hid (∀ w' u, Below w.heap.size w w' → ShL w' u cs → Calls Try.prog 44 #[u, cv] w' fun e w'' => e = .returned (.bool true) ∧ Below w'.heap.size w' w'') := fun w' u hb hu => sshps_any hu (HN.out.later hb) HCO.out.1 HCO.out.2
          obtain ⟨ra, rc, rfl⟩ := own_slice hdr.cr
          clear h hn hu hv hdr hlen h7 k0 k1 k2
          subst hus
          go_enter Try.func23, Try.ntmps23
          go_wp2_with fail
          have h8' : (w.alloc (.cells #[.int .i64 3, .int .i64 p, .int .i64 v, .int .i64 r, .int .i64 c, .slice ua a.length uc] 39)).cell? ⟨Y, 8, none⟩ = some (.slice ra cs.length rc) := cell_later (below_a1 _ _) (a := ⟨Y, 8, none⟩) hYl h8
          have HBZ : Hid (Below w.heap.size w (w.alloc (.cells #[.int .i64 3, .int .i64 p, .int .i64 v, .int .i64 r, .int .i64 c, .slice ua a.length uc] 39))) := below_a1 _ _
          generalize (w.alloc (.cells #[.int .i64 3, .int .i64 p, .int .i64 v, .int .i64 r, .int .i64 c, .slice ua a.length uc] 39)) = wz at *
          have hYz : Y < wz.heap.size := World.block_lt_of_cell? _ _ h8'
          clear h8 hYl
          go_region_with (first
            | (go_at_call 18; refine (H1.out _ (by first | exact below_drawn HBZ.out 1 | exact HBZ.out)).mono ?_; rintro e w1 ⟨u, V1, P1, G1, rfl, ho, hb⟩; have hbw : Below wz.heap.size wz w1 := (by first | exact below_then (below_drawn (Below.refl _ _) 1) hb | exact hb); have s8 : w1.cell? ⟨Y, 8, none⟩ = some (.slice ra cs.length rc) := cell_later hbw (a := ⟨Y, 8, none⟩) hYz h8'; have hn1 : ShL w1 u cs := shl_of ho.row ho.rows; obtain ⟨xa, xc, rfl⟩ := own_slice ho.row)
            | (go_at_call 44; refine (H2.out _ _ (below_then HBZ.out hbw) hn1).mono ?_; rintro e w2 ⟨rfl, hb2⟩; have HFF : Hid (After w (F ++ G) B X Y Z (stR raw ⟨3, p, v, r, c, a⟩) (stC cs ⟨3, p, v, r, c, a⟩) (.returned (.bool true)) w2) := HD.out w2 (below_then (below_then HBZ.out hbw) hb2)))
          all_goals
            clear hb hbw s8 hn1 ho hb2 H1 H2 HD
            go_wp2_with fail
            go_ret
            exact HFF.out
        · have e3 : (k == 3) = false := beq_eq_false_iff_ne.2 k3
          have HST : Hid (stR raw ⟨k, p, v, r, c, a⟩ = raw ∧ stC cs ⟨k, p, v, r, c, a⟩ = (callS cs r c a).2) := ⟨if_neg k1, if_neg (by simp only; omega)⟩
          rw [HST.out.1, HST.out.2]
          have HNL : Hid (∀ w', Below w.heap.size w w' → Nl w' u a) := fun w' hb => hn.later hb (Nat.le_refl _)
          have hFn : a.length ≠ 0 → ∀ x n cp, u = .slice (some x) n cp → x.block ∉ F := fun h0 x n cp e hm => by have := hu h0 x n cp e; have := (h.s.lo _ hm).1; omega
          have hGn : a.length ≠ 0 → ∀ x n cp, u = .slice (some x) n cp → x.block ∉ G := fun h0 x n cp e hm => by have := hu h0 x n cp e; have := (h.d.lo.1 _ hm).1; omega
          have H1 : Hid (∀ w', Below w.heap.size w w' → Calls Try.prog 14 #[.pointer (some ⟨X, 0, none⟩), .int .i64 r, .int .i64 c, u] w' fun e w'' => e = .returned (.tuple #[.int .i64 (callS cs r c a).1.1, .int .i64 (callS cs r c a).1.2.1, .int .i64 (callS cs r c a).1.2.2]) ∧ ∃ F', StAt w'' B X F' raw (callS cs r c a).2 ∧ Next F F' w' w'') := fun w' hb => call_any (h.s.later hb) r c (HNL.out w' hb) (Nat.le_trans h.wB hb.size) hFn
          have H2 : Hid (∀ w' w1 F', Below w.heap.size w w' → Next F F' w' w1 → Calls Try.prog 15 #[.pointer (some ⟨Y, 0, none⟩), .int .i64 r, .int .i64 c, u] w1 fun e w'' => e = .returned (.tuple #[.int .i64 (callS cs r c a).1.1, .int .i64 (callS cs r c a).1.2.1, .int .i64 (callS cs r c a).1.2.2]) ∧ ∃ G', DtAt w'' B Y G' Z raw (callS cs r c a).2 ∧ Next G G' w1 w'') := fun w' w1 F' hb hx => rcall_any ((h.later hb).goS hx).1 r c (nl_keep0 (HNL.out w' hb) hx.1 hFn) ((h.later hb).goS hx).2.2.2 hGn
          have HD : Hid (∀ w' w1 w2 F' G', Below w.heap.size w w' → StAt w1 B X F' raw (callS cs r c a).2 → Next F F' w' w1 → DtAt w2 B Y G' Z raw (callS cs r c a).2 → Next G G' w1 w2 → After w (F ++ G) B X Y Z raw (callS cs r c a).2 (.returned (.bool true)) w2) := fun w' w1 w2 F' G' hb hs hx hd hm => ⟨rfl, F', G', (h.later hb).go hs hx hd hm, ((hb.mono h.wB).trans ((h.later hb).bel hx)).trans (hm.below ((h.later hb).goS hx).2.2.2 (fun b hb => (h.d.lo.1 b hb).1)), Next.two hb hx hm⟩
          have HLO : Hid (∀ b ∈ F, b < w.heap.size) := fun b hb => (h.s.lo b hb).2
          clear h hn hu hv hdr hlen h7 h8 hYl k0 k1 k2 k3 HNL hFn hGn HST
          generalize callS cs r c a = x at *
          subst hus
          go_enter Try.func23, Try.ntmps23
          go_wp2_with fail
          refine (H1.out _ (below_a1 _ _)).mono ?_
          rintro e w1 ⟨rfl, F', hst, hx⟩
          have hr : w1.heap[w.heap.size]? = some (.cells #[.int .i64 k, .int .i64 p, .int .i64 v, .int .i64 r, .int .i64 c, .slice ua a.length uc] 39 (0, 0)) := (hx.1.block _ (by simp) (fun hm => Nat.lt_irrefl _ (HLO.out _ hm))).trans (heap_alloc_new _ _)
          have c3 : w1.cell? ⟨w.heap.size, 3, none⟩ = some (.int .i64 r) := (cell_at hr 3).trans rfl
          have c4 : w1.cell? ⟨w.heap.size, 4, none⟩ = some (.int .i64 c) := (cell_at hr 4).trans rfl
          have c5 : w1.cell? ⟨w.heap.size, 5, none⟩ = some (.slice ua a.length uc) := (cell_at hr 5).trans rfl
          have HC := H2.out _ w1 F' (below_a1 _ _) hx
          have HCC : Hid (Calls Try.prog 15 #[.pointer (some ⟨Y, 0, none⟩), .int .i64 r, .int .i64 c, .slice ua a.length uc] w1 fun e w'' => e = .returned (.tuple #[.int .i64 x.1.1, .int .i64 x.1.2.1, .int .i64 x.1.2.2]) ∧ ∃ G', DtAt w'' B Y G' Z raw x.2 ∧ Next G G' w1 w'') := HC
          have HDD : Hid (∀ w2 G', DtAt w2 B Y G' Z raw x.2 → Next G G' w1 w2 → After w (F ++ G) B X Y Z raw x.2 (.returned (.bool true)) w2) := fun w2 G' => HD.out _ w1 w2 F' G' (below_a1 _ _) hst hx
          clear hst hx hr HC H1 H2 HD
          go_wp2_with fail
          refine HCC.out.mono ?_
          rintro e w2 ⟨rfl, G', hd, hm⟩
          have HFF : Hid (After w (F ++ G) B X Y Z raw x.2 (.returned (.bool true)) w2) := HDD.out w2 G' hd hm
          clear hd hm HDD HCC
          go_wp2_with fail
          go_ret
          exact HFF.out
end Go.Proofs.Ytgbmnngmfcneaaa.Pl
