/- CoreMoves walked. -/
import Derived.Test.YtbeaaapkjoegoaaGreatJTyMTyO
import Derived.Deep.CutBlock
import Derived.Deep.DeepCutAuto
import Derived.Deep.LoopGhost
namespace Go.Proofs.YtbeaaapkjoegoaaGreat
open Go.ChangeShapes Go.WideShapes Go.ChangeAt Go.RowKit
attribute [local go_sem ↓] Go.wp_at_zero Go.wp_at_succ
set_option linter.unusedVariables false

theorem wrap_small {x : Int} (h0 : -9223372036854775808 ≤ x) (h1 : x ≤ 9223372036854775807) : wrap64 x = x := by unfold wrap64; omega
theorem wr9 {s m : Nat} (h1 : s ≤ 16) (h2 : m ≤ 24) : ∃ (nb : Nat) (si mj z1 z2 z3 : Int), Hid (nb = m + 9 * s + 2 ∧ nb ≤ 200 ∧ si = (s : Int) ∧ mj = (m : Int) ∧ z3 = (nb : Int)) ∧ Hid (wrap64 (9 * si) = z1 ∧ wrap64 (mj + z1) = z2 ∧ wrap64 (z2 + 2) = z3) :=
  ⟨m + 9 * s + 2, s, m, 9 * (s : Int), (m : Int) + 9 * (s : Int), (m : Int) + 9 * (s : Int) + 2, ⟨rfl, by omega, rfl, rfl, by omega⟩, ⟨wrap_small (by omega) (by omega), wrap_small (by omega) (by omega), wrap_small (by omega) (by omega)⟩⟩
theorem want_ok {a : At} (h : W64 a.w.value) : ∀ w, wantA a = some w → W64 w.value := fun w e => by
  unfold wantA at e
  split at e
  · cases e; exact h
  · cases e
theorem hap_few {W : Ev → Prop} {c : Nat} {N : Int} {m : Nat} {L : List Ac} {g : Rg} {T : Nat → Tx} {R : Nat → List (Int × Int)} {k : Nat} {pre : List Ev} {o : Out} {E : List Ev} {g' : Rg} {r' : List (Int × Int)} (h : Hap W c N m L g T R k pre o E g' r') (hp : pre = [] ∨ pre = [{ kind := 7 }]) : (pre ++ E).length ≤ 2 := by
  have hE : E.length ≤ 1 := by
    rcases h.tel with ⟨e1, _⟩ | ⟨e, e1, _⟩ <;> rw [e1] <;> simp
  have hpl : pre.length ≤ 1 := by rcases hp with e | e <;> rw [e] <;> simp
  simp only [List.length_append]
  omega
theorem answ_cells {w : World} {B : Nat} {k e v : Int} {y : Bool} (h : w.heap[B]? = some (.cells #[.int .i64 k, .int .i64 e, .int .i64 v, .bool y] 64 (0, 0))) : (w.cell? ⟨B, 0, none⟩ = some (.int .i64 k) ∧ w.cell? ⟨B, 1, none⟩ = some (.int .i64 e) ∧ w.cell? ⟨B, 2, none⟩ = some (.int .i64 v) ∧ w.cell? ⟨B, 3, none⟩ = some (.bool y)) ∧ True := ⟨⟨by rw [cell_at h]; rfl, by rw [cell_at h]; rfl, by rw [cell_at h]; rfl, by rw [cell_at h]; rfl⟩, trivial⟩
theorem ne1 {a b : Nat} (h : a < b) : a ∉ [b] := by simp; omega
theorem own_form {w : World} {base n sz cap : Nat} {e : TypeId} {a : Option Addr} {xs : List Value} (h : w.ownsRow base e sz (.slice a n cap) n xs) (hn : 0 < n) : ∃ g, a = some ⟨g, 0, none⟩ := by
  rcases h.2 with ⟨e, h0⟩ | ⟨g, cp, cur, e, _⟩
  · omega
  · injection e with e1 _ _
    exact ⟨g, e1⟩
/-- A game under way, with the stamps of entries that are written back and the oldest one's. -/
def M1 (w wr : World) (base s m : Nat) (N : Int) (p : Value) (Tp : Nat → Nat) (B X cap : Nat) (cur : Array Value) (rv : Value) (D : Nat) (dO : Obj) (Sb : Nat) (q : Nat) (old : Int) : Prop :=
  ∃ L g T R A st, MI w wr base s m N p Tp B X cap cur (.slice none 0 0) (.slice none 0 0) rv q L g T R A ∧ wr.heap[Sb]? = some (fourO st) ∧ Sb ∉ A ∧ wr.heap[D]? = some dO ∧ D ∉ A ∧ old = (g.d : Int) + 1 ∧ ∀ k, k < 4 → st k = stOf (T k)
set_option maxRecDepth 100000 in
set_option maxHeartbeats 3200000 in
theorem moves_walk (w : World) (raw ring writes stamps : Int) (mu : Bool) (tr : Int) (cv lv : Value) {S : List At} (hS : AcL w lv S) (hO : AcOk S) (HSH : Hid (∀ w : World, Calls Tryz.prog 7 #[] w fun e w' => e = .returned (.bool true) ∧ Below w.heap.size w w')) :
    Calls Tryz.prog 6 #[confT raw ring writes stamps mu tr cv, lv] w fun e w' => e = .returned (.bool true) ∧ Below w.heap.size w w' := by
  obtain ⟨s1, s2, m1, m2, n1, n2⟩ := fit_bd ring writes stamps mu
  have HF : Hid (∀ w : World, Calls Tryz.prog 25 #[confT raw ring writes stamps mu tr cv] w fun e w' => e = .returned (fcV (fitC ring writes stamps mu)) ∧ Below w.heap.size w w') := fun w => fit_any w raw ring writes stamps mu tr cv
  have HPL : Hid (∀ w : World, Calls Tryz.prog 24 #[fcV (fitC ring writes stamps mu)] w fun e w' => ∃ B X R p Tp A cap cur, e = .returned (.pointer (some ⟨B, 0, none⟩)) ∧ GG w' w.heap.size p 8 (fitC ring writes stamps mu).s [] Tp (fun _ => newX (fitC ring writes stamps mu).s (fitC ring writes stamps mu).n (fitC ring writes stamps mu).mu (fitC ring writes stamps mu).m) A ∧ w'.heap[B]? = some (gmO p (.slice (some ⟨X, 0, none⟩) 4 cap) (.slice none 0 0) (.slice none 0 0) (.slice (some ⟨R, 0, none⟩) 4 4)) ∧ w'.heap[X]? = some (txsO cur) ∧ Ptrs cur Tp ∧ w'.heap[R]? = some nilR ∧ B ∉ A ∧ X ∉ A ∧ R ∉ A ∧ w.heap.size ≤ B ∧ w.heap.size ≤ X ∧ w.heap.size ≤ R ∧ Below w.heap.size w w') := fun w => play_any w s1 s2 m1 m2 n1 n2
  generalize fitC ring writes stamps mu = d at *
  obtain ⟨s, m, n, mu'⟩ := d
  simp only at s1 s2 m1 m2 n1 n2 HPL
  have HMK : Hid (∀ w, (Instr.makeSlice 47 (.int .i64 4) (.int .i64 4)).run Tryz.prog w = .ok (.slice (some ⟨w.heap.size, 0, none⟩) 4 4) (w.alloc (fourO (fun _ => 0)))) := make_four
  have HP4 : Hid (∀ x w, Calls Tryz.prog 13 #[.int .i64 x, .int .i64 4] w fun e w' => e = .returned (.int .i64 (x % 4)) ∧ w' = w) := fun x w => gpick_any x 4 (by decide) (by decide) w
  have hmk := HMK.out
  obtain ⟨la, lcap, rfl, hSl, hSd⟩ := hS
  have HAC : Hid (∀ w' i, Below w.heap.size w w' → i < S.length → ∃ x : Addr, la = some x ∧ x.block < w.heap.size ∧ W64 (S.getD i noAt).w.value ∧ ∀ j u, (atC (S.getD i noAt))[j]? = some u → w'.cell? ((x.add (i * 12)).add j) = some u) := fun w' i k hi => by
    rcases hSd with h | ⟨x, e1, e2, e3⟩
    · rw [h] at hi; simp at hi
    · exact ⟨x, e1, e2, hO i hi, fun j u hu => (k.cell (p := (x.add (i * 12)).add j) (by rw [add_block, add_block]; exact e2)).trans (e3 i hi j u hu)⟩
  clear hSd hO
  generalize hnS : S.length = nS at *
  clear hnS
  unfold confT fcV at *
  simp only at HF HPL
  go_enter Tryz.func6, Tryz.ntmps6
  go_wp2_with fail
  refine (HSH.out _).mono ?_
  rintro e y1 ⟨rfl, hb1⟩
  have HB1 : Hid (Below w.heap.size w y1) := below_then (below_a1 _ _) hb1
  have HC1 : Hid (y1.heap[w.heap.size]? = some (.cells #[.int .i64 raw, .int .i64 ring, .int .i64 writes, .int .i64 stamps, .bool mu, .int .i64 tr, cv] 24 (0, 0))) := row_on (heap_alloc_new _ _) hb1
  obtain ⟨⟨r0, r1, r2, r3, r4, r5, r6⟩, _⟩ := cfg_cells HC1.out
  have hcl := heap_lt HC1.out
  clear hb1
  go_wp2_with fail
  refine (HF.out _).mono ?_
  rintro e y2 ⟨rfl, hb2⟩
  have HB2 : Hid (Below w.heap.size w y2) := below_then HB1.out hb2
  clear hb2 r0 r1 r2 r3 r4 r5 r6 hcl HB1 HC1 HF HSH
  go_wp2_with fail
  refine (HPL.out _).mono ?_
  rintro e y3 ⟨B, X, Rb, p, Tp, A, cap, cur, rfl, hgg, hgm, htx, hpt, hrd, hBA, hXA, hRA, hB0, hX0, hR0, hb3⟩
  obtain ⟨M, rfl⟩ := hgg.ptr
  obtain ⟨D, hD⟩ : ∃ D, D = y2.heap.size := ⟨_, rfl⟩
  obtain ⟨Sb, hSb⟩ : ∃ Sb, Sb = y3.heap.size := ⟨_, rfl⟩
  obtain ⟨y4, hy4⟩ : ∃ y4, y4 = y3.alloc (fourO (fun _ => 0)) := ⟨_, rfl⟩
  have HD3 : Hid (y3.heap[D]? = some (.cells #[.int .i64 0, .int .i64 (s : Int), .int .i64 (m : Int), .int .i64 (n : Int), .bool mu', .int .i64 0, .slice none 0 0] 24 (0, 0))) := by rw [hD]; exact row_on (heap_alloc_new _ _) hb3
  have HM0 : Hid (∃ base, M1 w y4 base s m n (.pointer (some ⟨M, 0, none⟩)) Tp B X cap cur (.slice (some ⟨Rb, 0, none⟩) 4 4) D (.cells #[.int .i64 0, .int .i64 (s : Int), .int .i64 (m : Int), .int .i64 (n : Int), .bool mu', .int .i64 0, .slice none 0 0] 24 (0, 0)) Sb 0 1) := by
    have hb4 : Below y3.heap.size y3 y4 := by rw [hy4]; exact below_a1 _ _
    have hlt := hgg.lt
    have hs2 := HB2.out.size
    have hs3 := hb3.size
    refine ⟨_, [], g0 s mu', _, _, A, fun _ => 0, ⟨wi_first s1 s2 (by omega) (by omega) m1 m2, rfl, (GB.below ⟨hgg, hgm, htx, hpt, hBA, hXA⟩ hb4), by simp, fun k hk => by simp [newX], below_then (below_then HB2.out (below_then (below_a1 _ _) hb3)) hb4, by simp; omega, Nat.le_trans hs3 hb4.size⟩, by rw [hy4, hSb]; exact heap_alloc_new _ _, fun e => by have := (hlt _ e).2; omega, row_on HD3.out hb4, fun e => by have := (hlt _ e).1; simp at this; omega, rfl, fun k hk => rfl⟩
  obtain ⟨base, HM0⟩ := HM0.out
  have HLS : Hid (w.heap.size ≤ Sb) := by have h1 := HB2.out.size; have h2 := hb3.size; show w.heap.size ≤ Sb; rw [hSb]; simp at h2; omega
  have HM : Hid (M1 w y4 base s m n (.pointer (some ⟨M, 0, none⟩)) Tp B X cap cur (.slice (some ⟨Rb, 0, none⟩) 4 4) D (.cells #[.int .i64 0, .int .i64 (s : Int), .int .i64 (m : Int), .int .i64 (n : Int), .bool mu', .int .i64 0, .slice none 0 0] 24 (0, 0)) Sb 0 1) := HM0
  clear HM0 hgg hgm htx hpt hrd hBA hXA hRA hB0 hX0 hR0 HD3 HPL
  go_upto_block 0 with fail
  rw [← hy4, ← hSb]
  rw [← hD]
  clear hy4 hSb hD hb3 HB2 hmk HMK
  obtain ⟨dO, hdO⟩ : ∃ dO : Obj, dO = .cells #[.int .i64 0, .int .i64 (s : Int), .int .i64 (m : Int), .int .i64 (n : Int), .bool mu', .int .i64 0, .slice none 0 0] 24 (0, 0) := ⟨_, rfl⟩
  rw [← hdO] at HM
  have HDO : Hid (dO = .cells #[.int .i64 0, .int .i64 (s : Int), .int .i64 (m : Int), .int .i64 (n : Int), .bool mu', .int .i64 0, .slice none 0 0] 24 (0, 0)) := hdO
  clear hdO
  go_cut [9] (fun ov wx => ∃ (q : Nat) (old : Int), q ≤ 1048576 ∧ ov = .int .i64 old ∧ M1 w wx base s m n (.pointer (some ⟨M, 0, none⟩)) Tp B X cap cur (.slice (some ⟨Rb, 0, none⟩) 4 4) D dO Sb q old)
  case first =>
    go_wp2_with fail
    go_loopw [9, 10] (fun ov iv wr => ∃ (q : Nat) (old : Int), q ≤ nS ∧ iv = .int .i64 q ∧ ov = .int .i64 old ∧ M1 w wr base s m n (.pointer (some ⟨M, 0, none⟩)) Tp B X cap cur (.slice (some ⟨Rb, 0, none⟩) 4 4) D dO Sb q old) (fun _ iv _ => nS - (intOf iv).toNat)
    case atStart => exact ⟨0, 1, by omega, rfl, rfl, HM.out⟩
    case round =>
      obtain ⟨q, old, hq, rfl, rfl, hm1⟩ := hrel
      by_cases hlt : q < nS
      · obtain ⟨L, g, T, R, A, st, mi, hst, hSA, hdd, hDA, rfl, hss⟩ := hm1
        have HMI : Hid (MI w wr base s m n (.pointer (some ⟨M, 0, none⟩)) Tp B X cap cur (.slice none 0 0) (.slice none 0 0) (.slice (some ⟨Rb, 0, none⟩) 4 4) q L g T R A) := mi
        have HST : Hid (wr.heap[Sb]? = some (fourO st) ∧ Sb ∉ A) := ⟨hst, hSA⟩
        have HDD : Hid (wr.heap[D]? = some dO ∧ D ∉ A) := ⟨hdd, hDA⟩
        have HSS : Hid (∀ k, k < 4 → st k = stOf (T k)) := hss
        obtain ⟨x, rfl, hxb, hval, hcell⟩ := HAC.out wr q mi.bel hlt
        obtain ⟨a, HAE⟩ : ∃ a, Hid (S.getD q noAt = a) := ⟨_, rfl⟩
        rw [HAE.out] at hcell hval
        obtain ⟨k, hk, hke⟩ := pick4 a.who
        have c1 : wr.cell? ((x.add (q * 12)).add 1) = some (.int .i64 a.who) := hcell 1 _ rfl
        rw [add_pos' _ _ (by decide)] at c1
        have HPK : Hid (∀ w, Calls Tryz.prog 13 #[.int .i64 a.who, .int .i64 4] w fun e w' => e = .returned (.int .i64 (k : Int)) ∧ w' = w) := by rw [← hke]; exact HP4.out a.who
        have hx1 : (q : Int) < (nS : Int) := by omega
        have hx0 : (0 : Int) ≤ (q : Int) := by omega
        clear mi hst hSA hdd hDA hss hcell hke
        go_wp2_with fail
        refine (HPK.out _).mono ?_
        rintro e z1 ⟨rfl, e1⟩
        obtain rfl : wr = z1 := e1.symm
        clear c1
        have hE : (T k).ev.length < 1073741824 := by have := HMI.out.evs k hk; omega
        have HTD : Hid (Calls Tryz.prog 26 #[.pointer (some ⟨Tp k, 0, none⟩), .int .i64 0] wr fun e w' => ∃ v, e = .returned v ∧ w'.ownsRow wr.heap.size 94 19 v (T k).ev.length (evsC (T k).ev) ∧ Below wr.heap.size wr w') := HMI.out.gb.told hk hE 0
        obtain ⟨b0, b1, b2⟩ := HMI.out.gb.cells hk
        have hBl := heap_lt HMI.out.gb.gm
        have hXl := heap_lt HMI.out.gb.tx
        have k4 : (k : Int) < 4 := by omega
        have k0 : (0 : Int) ≤ (k : Int) := by omega
        go_wp2_with fail
        refine HTD.out.mono ?_
        rintro e z2 ⟨v2, rfl, ho2, hb2⟩
        obtain ⟨a2, cap2, rfl⟩ := own_slice ho2
        have HM2 : Hid (MI w z2 base s m n (.pointer (some ⟨M, 0, none⟩)) Tp B X cap cur (.slice none 0 0) (.slice none 0 0) (.slice (some ⟨Rb, 0, none⟩) 4 4) q L g T R A) := HMI.out.below hb2
        have HS2 : Hid (z2.heap[Sb]? = some (fourO st) ∧ Sb ∉ A) := ⟨row_on HST.out.1 hb2, HST.out.2⟩
        have HD2 : Hid (z2.heap[D]? = some dO ∧ D ∉ A) := ⟨row_on HDD.out.1 hb2, HDD.out.2⟩
        obtain ⟨x', ex, _, _, hcell⟩ := HAC.out z2 q HM2.out.bel hlt
        obtain rfl : x = x' := Option.some.inj ex
        rw [HAE.out] at hcell
        unfold atC at hcell
        have c0 := hcell 0 _ rfl
        have c1 := hcell 1 _ rfl
        have c2 := hcell 2 _ rfl
        have c3 := hcell 3 _ rfl
        have c4 := hcell 4 _ rfl
        have c5 := hcell 5 _ rfl
        have c6 := hcell 6 _ rfl
        have c7 := hcell 7 _ rfl
        have c8 := hcell 8 _ rfl
        have c9 := hcell 9 _ rfl
        have c10 := hcell 10 _ rfl
        have c11 := hcell 11 _ rfl
        rw [add_pos' _ _ (by decide)] at c1 c2 c3 c4 c5 c6 c7 c8 c9 c10 c11
        have c0' : z2.cell? (x.add (q * 12)) = some (.int .i64 a.kind) := by have := c0; rwa [add_zero'] at this
        have hE2 : (T k).ev.length + 1 < 1073741824 := by have := HM2.out.evs k hk; omega
        have HACT : Hid (Calls Tryz.prog 29 #[.pointer (some ⟨B, 0, none⟩), .int .i64 (k : Int), .agg #[.int .i64 a.kind, .int .i64 a.who, .int .i64 a.thread, .int .i64 a.w.kind, .int .i64 a.w.cell, .int .i64 a.w.value, .int .i64 a.w.code, .int .i64 a.n, .int .i64 a.ak, .int .i64 a.ai, .int .i64 a.aj, .int .i64 a.v]] z2 fun e w' => ∃ o pre E g' r', o = actX 8 s (T k) L k (wantA a) ∧ e = .returned (anV o.k o.e o.v o.y) ∧ (pre = [] ∨ pre = [{ kind := 7 }]) ∧ Hap (Why n m g (T k) (wantA a)) 8 n m L g T R k pre o E g' r' ∧ ∃ A', MI w w' base s m n (.pointer (some ⟨M, 0, none⟩)) Tp B X cap cur (.slice none 0 0) (.slice none 0 0) (.slice (some ⟨Rb, 0, none⟩) 4 4) (q + 1) o.L g' (setT T k o.x) (setT R k r') A' ∧ Next A A' z2 w') := by
          refine (HM2.out.gb.act hk HM2.out.hi (by have := HM2.out.len; omega) hE2 (HM2.out.wi.ok k hk) HM2.out.wi.wd a).mono ?_
          rintro e w' ⟨rfl, A', gb, nx⟩
          obtain ⟨pre, E, g', r', hp, hap⟩ := hap_act HM2.out.wi hk (by omega) (wantA a) (want_ok hval) (k : Int)
          rw [HM2.out.gs] at hap
          exact ⟨_, pre, E, g', r', rfl, rfl, hp, hap, A', HM2.out.acts hk hp hap gb nx, nx⟩
        clear hcell c0 ho2 hb2 hE2 HTD b0 b1 b2
        go_wp2_with fail
        refine HACT.out.mono ?_
        rintro e z3 ⟨o, pre, E, g', r', HOX, rfl, hp, hap, A', mi3, nx3⟩
        clear HOX HACT c0' c1 c2 c3 c4 c5 c6 c7 c8 c9 c10 c11
        have HM3 : Hid (MI w z3 base s m n (.pointer (some ⟨M, 0, none⟩)) Tp B X cap cur (.slice none 0 0) (.slice none 0 0) (.slice (some ⟨Rb, 0, none⟩) 4 4) (q + 1) o.L g' (setT T k o.x) (setT R k r') A') := mi3
        have HS3 : Hid (z3.heap[Sb]? = some (fourO st) ∧ Sb ∉ A') := row_next0 HS2.out.1 HS2.out.2 nx3
        have HD3 : Hid (z3.heap[D]? = some dO ∧ D ∉ A') := row_next0 HD2.out.1 HD2.out.2 nx3
        have hse := st_each hap hp
        have hev := hap.ev
        obtain ⟨Dl, hDl⟩ : ∃ Dl, pre ++ E = Dl := ⟨_, rfl⟩
        rw [hDl] at hev
        have HSE : Hid ((Dl = [] → stOf o.x = stOf (T k) ∧ g'.d = g.d) ∧ ∀ j, (hj : j < Dl.length) → ((Dl[j].kind = 4 ∧ j + 1 = Dl.length ∧ stOf o.x = Dl[j].stamp ∧ g'.d = g.d) ∨ (Dl[j].kind = 5 ∧ j + 1 = Dl.length ∧ stOf o.x = 0 ∧ (g'.d : Int) = Dl[j].stamp) ∨ (Dl[j].kind ≠ 4 ∧ Dl[j].kind ≠ 5 ∧ (j + 1 = Dl.length → stOf o.x = stOf (T k) ∧ g'.d = g.d)))) := by subst hDl; exact hse
        have HT3 : Hid (Calls Tryz.prog 26 #[.pointer (some ⟨Tp k, 0, none⟩), .int .i64 ((T k).ev.length : Int)] z3 fun e w' => ∃ v, e = .returned v ∧ w'.ownsRow z3.heap.size 94 19 v Dl.length (evsC Dl) ∧ Below z3.heap.size z3 w') := by
          have hE3 : (setT T k o.x k).ev.length < 1073741824 := by have := mi3.evs k hk; omega
          have := mi3.gb.told hk hE3 ((T k).ev.length : Int)
          rw [setT_self, hev, fromE_app] at this
          exact this
        have hD2 : Dl.length ≤ 2 := by rw [← hDl]; exact hap_few hap hp
        have HDB : Hid ((g'.d : Int) ≤ 1099511627776) := by
          have h1 := mi3.wi.ri.dn
          have h2 := mi3.wi.ri.big
          show (g'.d : Int) ≤ _
          omega
        obtain ⟨b0, b1, b2⟩ := mi3.gb.cells hk
        have hB3 := heap_lt mi3.gb.gm
        have hX3 := heap_lt mi3.gb.tx
        clear mi3 nx3 hap hse hev hDl hp hE
        generalize (T k).ev.length = evl at *
        go_wp2_with fail
        refine HT3.out.mono ?_
        rintro e z4 ⟨v4, rfl, ho4, hb4⟩
        obtain ⟨a4, cap4, rfl⟩ := own_slice ho4
        have HM4 : Hid (MI w z4 base s m n (.pointer (some ⟨M, 0, none⟩)) Tp B X cap cur (.slice none 0 0) (.slice none 0 0) (.slice (some ⟨Rb, 0, none⟩) 4 4) (q + 1) o.L g' (setT T k o.x) (setT R k r') A') := HM3.out.below hb4
        have HS4 : Hid (z4.heap[Sb]? = some (fourO st) ∧ Sb ∉ A') := ⟨row_on HS3.out.1 hb4, HS3.out.2⟩
        have HD4 : Hid (z4.heap[D]? = some dO ∧ D ∉ A') := ⟨row_on HD3.out.1 hb4, HD3.out.2⟩
        have HO4 : Hid (z4.ownsRow z3.heap.size 94 19 (.slice a4 Dl.length cap4) Dl.length (evsC Dl)) := ho4
        clear ho4 hb4 b0 b1 b2 hB3 hX3 HT3 HM3 HS3 HD3 HM2 HS2 HD2 HST HDD HMI
        go_wp2_with fail
        obtain ⟨nd, hnd⟩ : ∃ nd, Dl.length = nd := ⟨_, rfl⟩
        have HND : Hid (Dl.length = nd) := hnd
        rw [hnd] at HO4
        rw [hnd]
        have hnd2 : nd ≤ 2 := by rw [← hnd]; exact hD2
        clear hnd hD2
        go_loopw [9, 14] (fun ov jv wq => ∃ (j : Nat) (st' : Nat → Int) (old' : Int), j ≤ nd ∧ jv = .int .i64 j ∧ ov = .int .i64 old' ∧ MI w wq base s m n (.pointer (some ⟨M, 0, none⟩)) Tp B X cap cur (.slice none 0 0) (.slice none 0 0) (.slice (some ⟨Rb, 0, none⟩) 4 4) (q + 1) o.L g' (setT T k o.x) (setT R k r') A' ∧ wq.heap[Sb]? = some (fourO st') ∧ wq.heap[D]? = some dO ∧ wq.ownsRow z3.heap.size 94 19 (.slice a4 nd cap4) nd (evsC Dl) ∧ (j < nd → (∀ i, i < 4 → st' i = stOf (T i)) ∧ old' = (g.d : Int) + 1) ∧ (j = nd → (∀ i, i < 4 → st' i = stOf (setT T k o.x i)) ∧ old' = (g'.d : Int) + 1)) (fun _ jv _ => nd - (intOf jv).toNat)
        case atStart =>
          refine ⟨0, st, (g.d : Int) + 1, by omega, rfl, rfl, HM4.out, HS4.out.1, HD4.out.1, HO4.out, fun _ => ⟨HSS.out, rfl⟩, fun e => ?_⟩
          have hn : Dl = [] := List.eq_nil_of_length_eq_zero (by have := HND.out; omega)
          obtain ⟨s1, s2⟩ := HSE.out.1 hn
          refine ⟨fun i hi => ?_, by rw [s2]⟩
          by_cases e : i = k
          · rw [e, setT_self, s1]; exact HSS.out k hk
          · rw [setT_else _ _ e]; exact HSS.out i hi
        case round =>
          obtain ⟨j, st', old', hj, rfl, rfl, mi, h1, h2, h3, h4, h5⟩ := hrel
          have HMq : Hid (MI w wr base s m n (.pointer (some ⟨M, 0, none⟩)) Tp B X cap cur (.slice none 0 0) (.slice none 0 0) (.slice (some ⟨Rb, 0, none⟩) 4 4) (q + 1) o.L g' (setT T k o.x) (setT R k r') A') := mi
          have HSq : Hid (wr.heap[Sb]? = some (fourO st')) := h1
          have HDq : Hid (wr.heap[D]? = some dO) := h2
          have HOq : Hid (wr.ownsRow z3.heap.size 94 19 (.slice a4 nd cap4) nd (evsC Dl)) := h3
          by_cases hjn : j < nd
          · obtain ⟨gg, rfl⟩ := own_form h3 (by omega)
            have hjl : j < Dl.length := by rw [HND.out]; exact hjn
            have hrow : wr.ownsRow z3.heap.size 94 19 (.slice (some ⟨gg, 0, none⟩) Dl.length cap4) Dl.length (evsC Dl) := by rw [HND.out]; exact h3
            have e3 : wr.cell? ⟨gg, j * 19 + 3, none⟩ = some (.int .i64 Dl[j].kind) := ev_cell hrow hjl (by decide)
            have e9 : wr.cell? ⟨gg, j * 19 + 9, none⟩ = some (.int .i64 Dl[j].stamp) := ev_cell hrow hjl (by decide)
            have hgl : gg < wr.heap.size := (h3.lt gg rfl).2
            have f4 := four_cell h1 hk
            have ff : wr.frozen? ⟨Sb, k, none⟩ = false := by unfold fourO at h1; exact frozen_at h1 k
            have hSl := heap_lt h1
            have HGS : Hid (gg ≠ Sb) := fun e => by unfold fourO at h1; exact own_ne h3 h1 (by decide) (by rw [← e]; rfl)
            have HSD : Hid (D ≠ Sb) := fun e => by rw [HDO.out] at h2; unfold fourO at h1; exact ne_of_type h2 h1 (by decide) e
            have HSB : Hid (B ≠ Sb ∧ X ≠ Sb) := ⟨fun e => by have := mi.gb.gm; unfold gmO at this; unfold fourO at h1; exact ne_of_type this h1 (by decide) e, fun e => by have := mi.gb.tx; unfold txsO at this; unfold fourO at h1; exact ne_of_type this h1 (by decide) e⟩
            have hx1 : (j : Int) < (nd : Int) := by omega
            have hx0 : (0 : Int) ≤ (j : Int) := by omega
            obtain ⟨o1, o2⟩ := h4 hjn
            have HSt : Hid (∀ v, MI w (wr.setCell ⟨Sb, k, none⟩ (.int .i64 v)) base s m n (.pointer (some ⟨M, 0, none⟩)) Tp B X cap cur (.slice none 0 0) (.slice none 0 0) (.slice (some ⟨Rb, 0, none⟩) 4 4) (q + 1) o.L g' (setT T k o.x) (setT R k r') A' ∧ (wr.setCell ⟨Sb, k, none⟩ (.int .i64 v)).heap[Sb]? = some (fourO (setT st' k v)) ∧ (wr.setCell ⟨Sb, k, none⟩ (.int .i64 v)).heap[D]? = some dO ∧ (wr.setCell ⟨Sb, k, none⟩ (.int .i64 v)).ownsRow z3.heap.size 94 19 (.slice (some ⟨gg, 0, none⟩) nd cap4) nd (evsC Dl)) := fun v => by
              have ks : Keep [Sb] wr (wr.setCell ⟨Sb, k, none⟩ (.int .i64 v)) := (Keep.refl _ _).setCell _ _ (Or.inl (by simp))
              refine ⟨HMq.out.other ks (fun z hz => ?_) (by simpa using HSB.out.1) (by simpa using HSB.out.2), four_set HSq.out hk v, keep_row ks HDq.out (by simpa using HSD.out), own_keep HOq.out ks (fun b hb => by simp [Value.ownBlock] at hb; subst hb; simpa using HGS.out)⟩
              simp at hz
              subst hz
              exact ⟨HLS.out, HS4.out.2⟩
            have hcase := HSE.out.2 j hjl
            generalize Dl[j].kind = ek at *
            generalize Dl[j].stamp = es at *
            clear mi h1 h2 h3 h4 h5 hrow
            have hg1 : gg ≠ Sb := HGS.out
            have hg2 : Sb ≠ gg := Ne.symm HGS.out
            rcases hcase with ⟨rfl, j1, j2, j3⟩ | ⟨rfl, j1, j2, j3⟩ | ⟨j1, j2, j3⟩
            · go_wp2
              go_roundw
              case rel =>
                obtain ⟨p1, p2, p3, p4⟩ := HSt.out es
                refine ⟨j + 1, _, _, by omega, by go_num, rfl, p1, p2, p3, p4, fun e => by exfalso; have := HND.out; omega, fun _ => ⟨fun i hi => ?_, by rw [o2, j3]⟩⟩
                by_cases e : i = k
                · rw [e, setT_self, setT_self, j2]
                · rw [setT_else _ _ e, setT_else _ _ e]; exact o1 i hi
              case measure => simp [intOf]; omega
            · have hw1 : wrap64 (es + 1) = es + 1 := by have := HDB.out; unfold wrap64; omega
              go_wp2
              go_roundw
              case rel =>
                obtain ⟨p1, p2, p3, p4⟩ := HSt.out 0
                refine ⟨j + 1, _, _, by omega, by go_num, rfl, p1, p2, p3, p4, fun e => by exfalso; have := HND.out; omega, fun _ => ⟨fun i hi => ?_, by rw [j3]; first | exact hw1 | rfl⟩⟩
                by_cases e : i = k
                · rw [e, setT_self, setT_self, j2]
                · rw [setT_else _ _ e, setT_else _ _ e]; exact o1 i hi
              case measure => simp [intOf]; omega
            · have d1 : (ek == 4) = false := by simpa using j1
              have d2 : (ek == 5) = false := by simpa using j2
              go_wp2
              go_roundw
              case rel =>
                refine ⟨j + 1, _, _, by omega, by go_num, rfl, HMq.out, HSq.out, HDq.out, HOq.out, fun _ => ⟨o1, o2⟩, fun e => ?_⟩
                obtain ⟨q1, q2⟩ := j3 (by rw [HND.out]; exact e)
                refine ⟨fun i hi => ?_, by rw [o2, q2]⟩
                by_cases e : i = k
                · rw [e, setT_self, q1]; exact o1 k hk
                · rw [setT_else _ _ e]; exact o1 i hi
              case measure => simp [intOf]; omega
          · obtain ⟨o1, o2⟩ := h5 (by omega)
            have hx1 : ¬ (j : Int) < (nd : Int) := by omega
            clear mi h1 h2 h3 h4 h5
            go_wp2
            go_roundw
            case rel => exact ⟨q + 1, _, by omega, by go_num, by rw [o2], _, _, _, _, _, _, HMq.out, HSq.out, HS4.out.2, HDq.out, HD4.out.2, rfl, o1⟩
            case measure => simp [intOf]; omega
      · have hx1 : ¬ (q : Int) < (nS : Int) := by omega
        go_wp2
        go_meet
        exact ⟨q, old, by omega, rfl, hm1⟩
  case rest =>
    obtain ⟨q0, old, hq0, rfl, L0, g1, T0, R0, A0, st, mi0, hst0, hSA0, hdd0, hDA0, hold, hss0⟩ := hcut
    have HL2 : Hid (∃ (L : List Ac) (g : Rg) (T : Nat → Tx) (R : Nat → List (Int × Int)) (A : List Nat), MI w wc base s m n (.pointer (some ⟨M, 0, none⟩)) Tp B X cap cur (.slice none 0 0) (.slice none 0 0) (.slice (some ⟨Rb, 0, none⟩) 4 4) q0 L g T R A ∧ wc.heap[Sb]? = some (fourO st) ∧ Sb ∉ A ∧ wc.heap[D]? = some dO ∧ D ∉ A ∧ ∀ j, 0 ≤ j → j < 4 → st j = old → stOf (T j) = old ∧ (g.d : Int) + 1 = old) := ⟨L0, g1, T0, R0, A0, mi0, hst0, hSA0, hdd0, hDA0, fun j _ hj e => ⟨by rw [← hss0 j hj]; exact e, hold.symm⟩⟩
    have HONE : Hid (∀ i j, i < 4 → j < 4 → st i = old → st j = old → i = j) := fun i j hi hj e1 e2 => st_one mi0.wi hi hj (o := old) (by omega) (by rw [← hss0 i hi]; exact e1) (by rw [← hss0 j hj]; exact e2)
    clear mi0 hst0 hSA0 hdd0 hDA0 hss0 hold HM HAC HP4
    go_upto_block 4 with fail
    go_cut [15] (fun _ wx => ∃ (q : Nat) (L : List Ac) (g : Rg) (T : Nat → Tx) (R : Nat → List (Int × Int)) (A : List Nat), q ≤ 1050000 ∧ MI w wx base s m n (.pointer (some ⟨M, 0, none⟩)) Tp B X cap cur (.slice none 0 0) (.slice none 0 0) (.slice (some ⟨Rb, 0, none⟩) 4 4) q L g T R A)
    case first =>
      go_wp2_with fail
      go_loopw [15] (fun kv wr => ∃ (k q : Nat) (L : List Ac) (g : Rg) (T : Nat → Tx) (R : Nat → List (Int × Int)) (A : List Nat), k ≤ 4 ∧ kv = .int .i64 k ∧ q ≤ 1048576 + 200 * k ∧ MI w wr base s m n (.pointer (some ⟨M, 0, none⟩)) Tp B X cap cur (.slice none 0 0) (.slice none 0 0) (.slice (some ⟨Rb, 0, none⟩) 4 4) q L g T R A ∧ wr.heap[Sb]? = some (fourO st) ∧ Sb ∉ A ∧ wr.heap[D]? = some dO ∧ D ∉ A ∧ ∀ j, k ≤ j → j < 4 → st j = old → stOf (T j) = old ∧ (g.d : Int) + 1 = old) (fun kv _ => 4 - (intOf kv).toNat)
      case atStart =>
        obtain ⟨L, g, T, R, A, h⟩ := HL2.out
        exact ⟨0, q0, L, g, T, R, A, by omega, rfl, by omega, h⟩
      case round =>
        obtain ⟨k, q, L, g, T, R, A, hk4, rfl, hq, mi, hst, hSA, hdd, hDA, hnx⟩ := hrel
        have HMI : Hid (MI w wr base s m n (.pointer (some ⟨M, 0, none⟩)) Tp B X cap cur (.slice none 0 0) (.slice none 0 0) (.slice (some ⟨Rb, 0, none⟩) 4 4) q L g T R A) := mi
        have HST : Hid (wr.heap[Sb]? = some (fourO st) ∧ Sb ∉ A) := ⟨hst, hSA⟩
        have HDD : Hid (wr.heap[D]? = some dO ∧ D ∉ A) := ⟨hdd, hDA⟩
        have HNX : Hid (∀ j, k ≤ j → j < 4 → st j = old → stOf (T j) = old ∧ (g.d : Int) + 1 = old) := hnx
        by_cases hk : k < 4
        · have f4 := four_cell hst hk
          have hSl := heap_lt hst
          have k4 : (k : Int) < 4 := by omega
          have k0 : (0 : Int) ≤ (k : Int) := by omega
          clear mi hst hSA hdd hDA hnx
          by_cases hso : st k = old
          · have f4' : wr.cell? ⟨Sb, k, none⟩ = some (.int .i64 old) := by rw [f4, hso]
            clear f4
            obtain ⟨hs1, hs2⟩ := HNX.out k (Nat.le_refl _) hk hso
            have HLF : Hid (Lft g (T k) (m + 9 * s + 2)) := by have := lft_first HMI.out.wi hk (by rw [hs1, hs2]); rw [HMI.out.gs] at this; exact this
            obtain ⟨nb, si, mj, z1, z2, z3, HNB, HW9⟩ := wr9 s2 m2
            rw [← HNB.out.1] at HLF
            go_wp2_with fail
            go_loopw [16] (fun iv wq => ∃ (i : Nat) (L : List Ac) (g : Rg) (T : Nat → Tx) (R : Nat → List (Int × Int)) (A : List Nat), i ≤ nb ∧ iv = .int .i64 i ∧ MI w wq base s m n (.pointer (some ⟨M, 0, none⟩)) Tp B X cap cur (.slice none 0 0) (.slice none 0 0) (.slice (some ⟨Rb, 0, none⟩) 4 4) (q + i) L g T R A ∧ wq.heap[Sb]? = some (fourO st) ∧ Sb ∉ A ∧ wq.heap[D]? = some dO ∧ D ∉ A ∧ Lft g (T k) (nb - i)) (fun iv _ => nb - (intOf iv).toNat)
            case atStart => exact ⟨0, L, g, T, R, A, by omega, rfl, HMI.out, HST.out.1, HST.out.2, HDD.out.1, HDD.out.2, HLF.out⟩
            case round =>
              clear HMI HST HDD HLF f4' hSl hs1 hs2 HL2
              obtain ⟨i, L, g, T, R, A, hi, rfl, mi, hst, hSA, hdd, hDA, hlf⟩ := hrel
              have HMI : Hid (MI w wr base s m n (.pointer (some ⟨M, 0, none⟩)) Tp B X cap cur (.slice none 0 0) (.slice none 0 0) (.slice (some ⟨Rb, 0, none⟩) 4 4) (q + i) L g T R A) := mi
              have HST : Hid (wr.heap[Sb]? = some (fourO st) ∧ Sb ∉ A) := ⟨hst, hSA⟩
              have HDD : Hid (wr.heap[D]? = some dO ∧ D ∉ A) := ⟨hdd, hDA⟩
              have HLF : Hid (Lft g (T k) (nb - i)) := hlf
              rw [HDO.out] at hdd
              obtain ⟨⟨_, d1, d2, _, _, _, _⟩, _⟩ := cfg_cells hdd
              rw [← HNB.out.2.2.1] at d1
              rw [← HNB.out.2.2.2.1] at d2
              obtain ⟨w1, w2, w3⟩ := HW9.out
              have hDl := heap_lt hdd
              clear mi hst hSA hdd hDA hlf
              by_cases hin : i < nb
              · have hx1 : (i : Int) < z3 := by rw [HNB.out.2.2.2.2]; omega
                obtain ⟨b0, b1, b2⟩ := HMI.out.gb.cells hk
                have hBl := heap_lt HMI.out.gb.gm
                have hXl := heap_lt HMI.out.gb.tx
                obtain ⟨n', hn'⟩ : ∃ n', nb - i = n' + 1 := ⟨nb - i - 1, by omega⟩
                rw [hn'] at HLF
                obtain ⟨o, g', R', ok1, hlf', hstep⟩ := HMI.out.step1 (by have := HNB.out.2.1; omega) hk HLF.out
                have HG : Hid (∀ w', Below wr.heap.size wr w' → Calls Tryz.prog 17 #[.pointer (some ⟨Tp k, 0, none⟩), .pointer (some ⟨M, 0, none⟩), .int .i64 (k : Int)] w' fun e w'' => e = .returned (.agg #[.int .i64 o.k, .int .i64 o.e, .int .i64 o.v, .bool o.y]) ∧ ∃ A', MI w w'' base s m n (.pointer (some ⟨M, 0, none⟩)) Tp B X cap cur (.slice none 0 0) (.slice none 0 0) (.slice (some ⟨Rb, 0, none⟩) 4 4) (q + i + 1) o.L g' (setT T k o.x) R' A' ∧ Next A A' w' w'') := hstep
                have HLF' : Hid (Lft g' (setT T k o.x k) n' ∧ n' = nb - (i + 1)) := ⟨hlf', by omega⟩
                have HLW : Hid (w.heap.size ≤ wr.heap.size) := HMI.out.bel.size
                have HLT : Hid (∀ z ∈ A, z < wr.heap.size) := fun z hz => (HMI.out.gb.gg.lt z hz).2
                have HBX : Hid (wr.heap[B]? = some (gmO (.pointer (some ⟨M, 0, none⟩)) (.slice (some ⟨X, 0, none⟩) 4 cap) (.slice none 0 0) (.slice none 0 0) (.slice (some ⟨Rb, 0, none⟩) 4 4)) ∧ wr.heap[X]? = some (txsO cur) ∧ B ∉ A ∧ X ∉ A ∧ Ptrs cur Tp) := ⟨HMI.out.gb.gm, HMI.out.gb.tx, HMI.out.gb.bA, HMI.out.gb.xA, HMI.out.gb.pt⟩
                clear hstep hlf' hn' HLF HMI
                go_wp2_with fail
                clear d1 d2 hDl w1 w2 w3 hx1
                go_cut [17] (fun s17 wx => ∃ A', MI w wx base s m n (.pointer (some ⟨M, 0, none⟩)) Tp B X cap cur (.slice none 0 0) (.slice none 0 0) (.slice (some ⟨Rb, 0, none⟩) 4 4) (q + i + 1) o.L g' (setT T k o.x) R' A' ∧ wx.heap[Sb]? = some (fourO st) ∧ Sb ∉ A' ∧ wx.heap[D]? = some dO ∧ D ∉ A' ∧ AnsAt wr wx s17 A' o.k o.e o.v o.y)
                case first =>
                  have n1 : B ≠ wr.heap.size := by omega
                  have n2 : wr.heap.size ≠ B := by omega
                  have n3 : X ≠ wr.heap.size := by omega
                  have n4 : wr.heap.size ≠ X := by omega
                  go_region_held3 (fun w' => w'.cell? ⟨B, 0, none⟩ = some (.pointer (some ⟨M, 0, none⟩)) ∧ w'.cell? ⟨B, 1, none⟩ = some (.slice (some ⟨X, 0, none⟩) 4 cap) ∧ w'.cell? ⟨X, k, none⟩ = some (.pointer (some ⟨Tp k, 0, none⟩))) (first | go_keep | exact hS) (first
                    | (go_at_call 17; refine (HG.out _ (by first | exact bl_drew _ | exact below_then (below_a1 _ _) (bl_drew _))).mono ?_; rintro e z1 ⟨rfl, A1, mi1, nx1⟩; have hS := mi1.gb.cells hk; have m1' : B < z1.heap.size := heap_lt mi1.gb.gm; have m2' : X < z1.heap.size := heap_lt mi1.gb.tx; have m3 : B ≠ z1.heap.size := (by omega); have m4 : z1.heap.size ≠ B := (by omega); have m5 : X ≠ z1.heap.size := (by omega); have m6 : z1.heap.size ≠ X := (by omega); have hs1 := nx1.1.size; try (have hr := row_next0 (w0 := World.drew (wr.alloc (.cells #[.int .i64 0, .int .i64 0, .int .i64 0, .bool false] 64))) (heap_alloc_new _ _) (fun e => by have := HLT.out _ e; omega) nx1; obtain ⟨⟨a0, a1, a2, a3⟩, g0, g1, g2, g3⟩ := ans_cells hr.1; have hBa := heap_lt hr.1)))
                  · clear hS
                    go_wp2_with fail
                    go_meet
                    have r1 := row_next0 (row_on HST.out.1 (bl_drew _)) HST.out.2 nx1
                    have r2 := row_next0 (row_on HDD.out.1 (bl_drew _)) HDD.out.2 nx1
                    exact ⟨A1, mi1.below (below_a1 _ _), row_on r1.1 (below_a1 _ _), r1.2, row_on r2.1 (below_a1 _ _), r2.2, z1.heap.size, rfl, hs1, fun e => Nat.lt_irrefl _ (mi1.gb.gg.lt _ e).2, heap_alloc_new _ _⟩
                  · clear hS
                    go_wp2_with fail
                    go_meet
                    have hK := Co.keepWB (w := z1) (B := wr.heap.size) o.k o.e o.v o.y
                    have r1 := row_next0 (row_on HST.out.1 (below_then (below_a1 _ _) (bl_drew _))) HST.out.2 nx1
                    have r2 := row_next0 (row_on HDD.out.1 (below_then (below_a1 _ _) (bl_drew _))) HDD.out.2 nx1
                    have hlw := HLW.out
                    have q1 := heap_lt HST.out.1
                    have q2 := heap_lt HDD.out.1
                    refine ⟨A1, mi1.other hK (fun z hz => ?_) (by simpa using n1) (by simpa using n3), keep_row hK r1.1 (ne1 q1), r1.2, keep_row hK r2.1 (ne1 q2), r2.2, wr.heap.size, rfl, Nat.le_refl _, hr.2, Co.ansW_set rfl hr.1 o.k o.e o.v o.y⟩
                    simp at hz
                    subst hz
                    exact ⟨hlw, hr.2⟩
                case rest =>
                  obtain ⟨A1, mi1, r1, r2, r3, r4, Pa, rfl, _, _, hpa⟩ := hcut
                  obtain ⟨⟨a0, _, _, _⟩, _⟩ := answ_cells hpa
                  have hPl := heap_lt hpa
                  have ok1' : (o.k == 1) = false := by simpa using ok1
                  clear hpa ok1
                  have hnb2 : nb ≤ 200 := HNB.out.2.1
                  go_wp2
                  go_roundw
                  case rel => exact ⟨i + 1, o.L, g', setT T k o.x, R', A1, by omega, by go_num, mi1, r1, r2, r3, r4, by rw [← HLF'.out.2]; exact HLF'.out.1⟩
                  case measure => simp [intOf]; omega
              · obtain rfl : i = nb := by omega
                have hx1 : ¬ (i : Int) < z3 := by rw [HNB.out.2.2.2.2]; omega
                rw [Nat.sub_self] at HLF
                have hp0 := lft_end (HMI.out.wi.ok k hk) HLF.out
                have HPH : Hid (Calls Tryz.prog 32 #[.pointer (some ⟨Tp k, 0, none⟩)] wr fun e w' => e = .returned (.int .i64 0) ∧ Below wr.heap.size wr w') := by
                  obtain ⟨G, ht⟩ := HMI.out.gb.gg.tx hk
                  rw [← hp0]
                  exact phase_any ht
                obtain ⟨b0, b1, b2⟩ := HMI.out.gb.cells hk
                have hBl := heap_lt HMI.out.gb.gm
                have hXl := heap_lt HMI.out.gb.tx
                clear hp0 HLF
                go_wp2_with fail
                clear d1 d2 w1 w2 w3
                refine HPH.out.mono ?_
                rintro e z9 ⟨rfl, hb9⟩
                have HM9 : Hid (MI w z9 base s m n (.pointer (some ⟨M, 0, none⟩)) Tp B X cap cur (.slice none 0 0) (.slice none 0 0) (.slice (some ⟨Rb, 0, none⟩) 4 4) (q + i) L g T R A) := HMI.out.below hb9
                have HR9 : Hid (z9.heap[Sb]? = some (fourO st) ∧ z9.heap[D]? = some dO) := ⟨row_on HST.out.1 hb9, row_on HDD.out.1 hb9⟩
                clear hb9 b0 b1 b2
                go_wp2
                go_roundw
                case rel => exact ⟨k + 1, q + i, L, g, T, R, A, by omega, by go_num, by have := HNB.out.2.1; omega, HM9.out, HR9.out.1, HST.out.2, HR9.out.2, HDD.out.2, fun j h1 h2 h3 => absurd (HONE.out j k h2 hk h3 hso) (by omega)⟩
                case measure => simp [intOf]; omega
          · have hso' : (st k == old) = false := by simpa using hso
            go_wp2
            go_roundw
            case rel => exact ⟨k + 1, q, L, g, T, R, A, by omega, by go_num, by omega, HMI.out, HST.out.1, HST.out.2, HDD.out.1, HDD.out.2, fun j h1 h2 h3 => HNX.out j (by omega) h2 h3⟩
            case measure => simp [intOf]; omega
        · have hx1 : ¬ (k : Int) < 4 := by omega
          clear mi hst hSA hdd hDA hnx
          go_wp2
          go_meet
          exact ⟨q, L, g, T, R, A, by omega, HMI.out⟩
    case rest =>
      obtain ⟨q1, L1, g2, T1, R1, A1, hq1, mi1⟩ := hcut
      have HL3 : Hid (∃ (L : List Ac) (g : Rg) (T : Nat → Tx) (R : Nat → List (Int × Int)) (A : List Nat), MI w wc base s m n (.pointer (some ⟨M, 0, none⟩)) Tp B X cap cur (.slice none 0 0) (.slice none 0 0) (.slice (some ⟨Rb, 0, none⟩) 4 4) q1 L g T R A ∧ Mv g T 0 0 0) := ⟨L1, g2, T1, R1, A1, mi1, mv_first mi1.wi⟩
      clear mi1 HL2 HONE
      go_upto_block 8 with fail
      go_wp2_with fail
      go_loopw [19, 20, 21] (fun bv mv kv wr => ∃ (k busy moves : Nat) (L : List Ac) (g : Rg) (T : Nat → Tx) (R : Nat → List (Int × Int)) (A : List Nat), k ≤ 4 ∧ busy ≤ k ∧ moves ≤ k ∧ bv = .int .i64 busy ∧ mv = .int .i64 moves ∧ kv = .int .i64 k ∧ MI w wr base s m n (.pointer (some ⟨M, 0, none⟩)) Tp B X cap cur (.slice none 0 0) (.slice none 0 0) (.slice (some ⟨Rb, 0, none⟩) 4 4) (q1 + k) L g T R A ∧ Mv g T k busy moves) (fun _ _ kv _ => 4 - (intOf kv).toNat)
      case atStart =>
        obtain ⟨L, g, T, R, A, h1, h2⟩ := HL3.out
        exact ⟨0, 0, 0, L, g, T, R, A, by omega, by omega, by omega, rfl, rfl, rfl, h1, h2⟩
      case round =>
        obtain ⟨k, busy, moves, L, g, T, R, A, hk4, hbk, hmk, rfl, rfl, rfl, mi, hmv⟩ := hrel
        have HMI : Hid (MI w wr base s m n (.pointer (some ⟨M, 0, none⟩)) Tp B X cap cur (.slice none 0 0) (.slice none 0 0) (.slice (some ⟨Rb, 0, none⟩) 4 4) (q1 + k) L g T R A) := mi
        have HMV : Hid (Mv g T k busy moves) := hmv
        clear HL3
        by_cases hk : k < 4
        · have k4 : (k : Int) < 4 := by omega
          have k0 : (0 : Int) ≤ (k : Int) := by omega
          have HPH : Hid (Calls Tryz.prog 32 #[.pointer (some ⟨Tp k, 0, none⟩)] wr fun e w' => e = .returned (.int .i64 (T k).phase) ∧ Below wr.heap.size wr w') := by
            obtain ⟨G, ht⟩ := mi.gb.gg.tx hk
            exact phase_any ht
          obtain ⟨b0, b1, b2⟩ := mi.gb.cells hk
          have hBl := heap_lt mi.gb.gm
          have hXl := heap_lt mi.gb.tx
          clear mi hmv
          go_wp2_with fail
          refine HPH.out.mono ?_
          rintro e z1 ⟨rfl, hb1⟩
          have HM1 : Hid (MI w z1 base s m n (.pointer (some ⟨M, 0, none⟩)) Tp B X cap cur (.slice none 0 0) (.slice none 0 0) (.slice (some ⟨Rb, 0, none⟩) 4 4) (q1 + k) L g T R A) := HMI.out.below hb1
          clear hb1 b0 b1 b2 hBl hXl HPH HMI
          by_cases hp : (T k).phase = 0 ∨ (T k).phase = 2
          · have HMV' : Hid (Mv g T (k + 1) busy moves) := mv_idle HMV.out hp
            generalize (T k).phase = ph at *
            rcases hp with rfl | rfl
            · go_wp2
              go_roundw
              case rel => exact ⟨k + 1, busy, moves, L, g, T, R, A, by omega, by omega, by omega, rfl, rfl, by go_num, HM1.out.more (by omega), HMV'.out⟩
              case measure => simp [intOf]; omega
            · go_wp2
              go_roundw
              case rel => exact ⟨k + 1, busy, moves, L, g, T, R, A, by omega, by omega, by omega, rfl, rfl, by go_num, HM1.out.more (by omega), HMV'.out⟩
              case measure => simp [intOf]; omega
          · obtain ⟨hp1, hp2⟩ : (T k).phase ≠ 0 ∧ (T k).phase ≠ 2 := ⟨fun e => hp (Or.inl e), fun e => hp (Or.inr e)⟩
            generalize (T k).phase = ph at *
            have d1 : (ph == 0) = false := by simpa using hp1
            have d2 : (ph == 2) = false := by simpa using hp2
            obtain ⟨o, g', R', hmv', hstep⟩ := HM1.out.step2 (by omega) hk HMV.out
            have HG : Hid (∀ w', Below z1.heap.size z1 w' → Calls Tryz.prog 17 #[.pointer (some ⟨Tp k, 0, none⟩), .pointer (some ⟨M, 0, none⟩), .int .i64 (k : Int)] w' fun e w'' => e = .returned (.agg #[.int .i64 o.k, .int .i64 o.e, .int .i64 o.v, .bool o.y]) ∧ ∃ A', MI w w'' base s m n (.pointer (some ⟨M, 0, none⟩)) Tp B X cap cur (.slice none 0 0) (.slice none 0 0) (.slice (some ⟨Rb, 0, none⟩) 4 4) (q1 + k + 1) o.L g' (setT T k o.x) R' A' ∧ Next A A' w' w'') := hstep
            have HMV' : Hid (Mv g' (setT T k o.x) (k + 1) (busy + 1) (if o.k = 1 then moves else moves + 1)) := hmv'
            have HLW : Hid (w.heap.size ≤ z1.heap.size) := HM1.out.bel.size
            have HLT : Hid (∀ z ∈ A, z < z1.heap.size) := fun z hz => (HM1.out.gb.gg.lt z hz).2
            obtain ⟨b0, b1, b2⟩ := HM1.out.gb.cells hk
            have hBl := heap_lt HM1.out.gb.gm
            have hXl := heap_lt HM1.out.gb.tx
            clear hstep hmv' HM1 hp
            go_wp2_with fail
            clear d1 d2 hp1 hp2
            go_cut [23] (fun s23 wx => ∃ A', MI w wx base s m n (.pointer (some ⟨M, 0, none⟩)) Tp B X cap cur (.slice none 0 0) (.slice none 0 0) (.slice (some ⟨Rb, 0, none⟩) 4 4) (q1 + k + 1) o.L g' (setT T k o.x) R' A' ∧ AnsAt z1 wx s23 A' o.k o.e o.v o.y)
            case first =>
              have n1 : B ≠ z1.heap.size := by omega
              have n2 : z1.heap.size ≠ B := by omega
              have n3 : X ≠ z1.heap.size := by omega
              have n4 : z1.heap.size ≠ X := by omega
              go_region_held3 (fun w' => w'.cell? ⟨B, 0, none⟩ = some (.pointer (some ⟨M, 0, none⟩)) ∧ w'.cell? ⟨B, 1, none⟩ = some (.slice (some ⟨X, 0, none⟩) 4 cap) ∧ w'.cell? ⟨X, k, none⟩ = some (.pointer (some ⟨Tp k, 0, none⟩))) (first | go_keep | exact hS) (first
                | (go_at_call 17; refine (HG.out _ (by first | exact bl_drew _ | exact below_then (below_a1 _ _) (bl_drew _))).mono ?_; rintro e z2 ⟨rfl, A1, mi1, nx1⟩; have hS := mi1.gb.cells hk; have m1' : B < z2.heap.size := heap_lt mi1.gb.gm; have m2' : X < z2.heap.size := heap_lt mi1.gb.tx; have m3 : B ≠ z2.heap.size := (by omega); have m4 : z2.heap.size ≠ B := (by omega); have m5 : X ≠ z2.heap.size := (by omega); have m6 : z2.heap.size ≠ X := (by omega); have hs1 := nx1.1.size; try (have hr := row_next0 (w0 := World.drew (z1.alloc (.cells #[.int .i64 0, .int .i64 0, .int .i64 0, .bool false] 64))) (heap_alloc_new _ _) (fun e => by have := HLT.out _ e; omega) nx1; obtain ⟨⟨a0, a1, a2, a3⟩, g0, g1, g2, g3⟩ := ans_cells hr.1; have hBa := heap_lt hr.1)))
              · clear hS
                go_wp2_with fail
                go_meet
                exact ⟨A1, mi1.below (below_a1 _ _), z2.heap.size, rfl, hs1, fun e => Nat.lt_irrefl _ (mi1.gb.gg.lt _ e).2, heap_alloc_new _ _⟩
              · clear hS
                go_wp2_with fail
                go_meet
                have hK := Co.keepWB (w := z2) (B := z1.heap.size) o.k o.e o.v o.y
                have hlw := HLW.out
                refine ⟨A1, mi1.other hK (fun z hz => ?_) (by simpa using n1) (by simpa using n3), z1.heap.size, rfl, Nat.le_refl _, hr.2, Co.ansW_set rfl hr.1 o.k o.e o.v o.y⟩
                simp at hz
                subst hz
                exact ⟨hlw, hr.2⟩
            case rest =>
              obtain ⟨A1, mi1, Pa, rfl, _, _, hpa⟩ := hcut
              obtain ⟨⟨a0, _, _, _⟩, _⟩ := answ_cells hpa
              have hPl := heap_lt hpa
              clear hpa
              by_cases ok1 : o.k = 1
              · rw [if_pos ok1] at HMV'
                rw [ok1] at a0
                go_wp2
                go_roundw
                case rel => exact ⟨k + 1, busy + 1, moves, o.L, g', setT T k o.x, R', A1, by omega, by omega, by omega, by go_num, rfl, by go_num, mi1, HMV'.out⟩
                case measure => simp [intOf]; omega
              · rw [if_neg ok1] at HMV'
                have d1 : (o.k == 1) = false := by simpa using ok1
                go_wp2
                go_roundw
                case rel => exact ⟨k + 1, busy + 1, moves + 1, o.L, g', setT T k o.x, R', A1, by omega, by omega, by omega, by go_num, by go_num, by go_num, mi1, HMV'.out⟩
                case measure => simp [intOf]; omega
        · obtain rfl : k = 4 := by omega
          have hbel := mi.bel
          have hlast := mv_last HMV.out
          clear mi hmv HMI HMV
          by_cases hb0 : busy = 0
          · subst hb0
            go_wp2
            go_ret
            exact ⟨rfl, hbel⟩
          · have hm0 : 0 < moves := by rcases hlast with e | e <;> omega
            have hfin : ((busy : Int) == 0 || decide (0 < moves)) = true := by simp [hm0]
            have hb1 : ¬ ((busy : Int) = 0) := by omega
            go_wp2
            go_ret
            exact ⟨rfl, hbel⟩
end Go.Proofs.YtbeaaapkjoegoaaGreat
