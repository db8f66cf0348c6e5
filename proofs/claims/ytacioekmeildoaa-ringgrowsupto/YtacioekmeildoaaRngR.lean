/- The law RingGrows, walked. -/
import Derived.Test.YtacioekmeildoaaRngQ
import Derived.Deep.Cut
import Derived.Deep.CutRange
import Derived.Deep.DeepCutAuto
import Derived.Deep.CutBlock
import Derived.Deep.LoopGhost
namespace Go.Proofs.Ytacioekmeildoaa
open Go.ChangeShapes Go.WideShapes Go.ChangeAt Go.RowKit

/-- What is so between two acts. -/
def Grown_ (w wr : World) (bs : Nat) (p : Value) (s q : Nat) (s9 s10 s11 : Value) : Prop := ∃ (N A D : Nat) (L : List Ac) (F : List Nat), s9 = .int .i64 (N : Int) ∧ s10 = .int .i64 (A : Int) ∧ s11 = .int .i64 (D : Int) ∧ N ≤ q ∧ L.length ≤ 2 * q ∧ Gm w wr bs p s L F ∧ Gr (wordOf L) s N A D

set_option maxRecDepth 100000 in
set_option maxHeartbeats 6400000 in
theorem ringGrows_walk (w : World) (raw : Int) (v : Value) (l : List Int) (hv : ILst w v l) (hl : l.length ≤ 1048576) :
    Calls Try.prog 6 #[.int .i64 raw, v] w fun e w' => e = .returned (.bool true) ∧ Below w.heap.size w w' := by
  obtain ⟨va, vcap, rfl, hl0⟩ := hv
  have HC : Hid (∀ q, q < l.length → ∃ x, va = some x ∧ x.block < w.heap.size ∧ w.cell? (x.add q) = some (.int .i64 (l.getD q 0))) := by
    intro q hq
    rcases hl0 with rfl | ⟨x, hx, hxb, hcc⟩
    · exact absurd hq (by simp)
    · exact ⟨x, hx, hxb, hcc q hq⟩
  clear hl0
  generalize hn : l.length = n at *
  clear hn
  have hz0 := Int.emod_nonneg raw (show (16 : Int) ≠ 0 by decide)
  have hz1 := Int.emod_lt_of_pos raw (show (0 : Int) < 16 by decide)
  have HPK : Hid (∀ w : World, Calls Try.prog 23 #[.int .i64 raw, .int .i64 16] w fun e w' => e = .returned (.int .i64 (raw % 16)) ∧ w' = w) := fun w => pick_any raw 16 (by decide) (by decide) w
  generalize raw % 16 = z at *
  obtain ⟨s, hs⟩ : ∃ s : Nat, 1 + z = (s : Int) := ⟨(1 + z).toNat, by omega⟩
  have hs1 : 1 ≤ s := by omega
  have hs16 : s ≤ 16 := by omega
  have HN : Hid (∀ w : World, Calls Try.prog 17 #[.int .i64 1, .int .i64 (s : Int)] w fun e w' => ∃ p F, e = .returned (.tuple #[p, .int .i64 0]) ∧ p ≠ .pointer none ∧ MemAt w' w.heap.size p 1 s [] F ∧ Below w.heap.size w w') := fun w => new_yes w 1 s (by omega) ⟨hs1, hs16⟩
  go_enter Try.func6, Try.ntmps6
  go_wp2_with fail
  refine (ringShown_any _).mono ?_
  rintro e wx ⟨rfl, hx⟩
  rw [hx]
  clear hx wx
  go_wp2_with fail
  refine (HPK.out _).mono ?_
  rintro e wx ⟨rfl, hx⟩
  rw [hx]
  clear hx wx
  go_wp2_with fail
  refine (HN.out _).mono ?_
  rintro e w3 ⟨p, F3, rfl, _, hm, hb3⟩
  obtain ⟨M, rfl⟩ := hm.ptr
  have HG3 : Hid (Grown_ w w3 w.heap.size (.pointer (some ⟨M, 0, none⟩)) s 0 (.int .i64 0) (.int .i64 0) (.int .i64 0)) := ⟨0, 0, 0, [], F3, rfl, rfl, rfl, Nat.le_refl _, by simp, ⟨hm, hb3, Nat.le_refl _, hb3.size⟩, gr_zero s hs1 hs16⟩
  clear hm hb3 HN HPK hz0 hz1 hs
  obtain ⟨bs, hbs⟩ : ∃ bs, bs = w.heap.size := ⟨_, rfl⟩
  rw [← hbs] at HG3
  clear hbs
  go_wp2
  go_loopg [9, 10, 11, 12] n (fun gk s9 s10 s11 iv wr => ∃ q : Nat, q + gk = n ∧ iv = .int .i64 q ∧ Grown_ w wr bs (.pointer (some ⟨M, 0, none⟩)) s q s9 s10 s11)
  case atStart => exact ⟨0, by omega, rfl, HG3.out⟩
  case round =>
    obtain ⟨q, hq, rfl, hgr⟩ := hrel
    obtain ⟨N, A, D, L, F, rfl, rfl, rfl, hNq, hLq, hgm, hgr⟩ := hgr
    have HGM : Hid (Gm w wr bs (.pointer (some ⟨M, 0, none⟩)) s L F) := hgm
    have HGR : Hid (Gr (wordOf L) s N A D) := hgr
    have hda := hgr.da
    have han := hgr.an
    have hnd := hgr.nd
    clear hgm hgr
    by_cases hlt : q < n
    · obtain ⟨x, rfl, hxb, hcx⟩ := HC.out q hlt
      have hcx2 : wr.cell? (x.add q) = some (.int .i64 (l.getD q 0)) := cell_later HGM.out.bel (by rw [add_block]; exact hxb) hcx
      have HPK : Hid (∀ w : World, Calls Try.prog 23 #[.int .i64 (l.getD q 0), .int .i64 3] w fun e w' => e = .returned (.int .i64 (l.getD q 0 % 3)) ∧ w' = w) := fun w => pick_any _ 3 (by decide) (by decide) w
      have hm0 := Int.emod_nonneg (l.getD q 0) (show (3 : Int) ≠ 0 by decide)
      have hm1 := Int.emod_lt_of_pos (l.getD q 0) (show (0 : Int) < 3 by decide)
      generalize l.getD q 0 % 3 = m3 at *
      generalize l.getD q 0 = az at *
      have hd : decide ((q : Int) < (n : Int)) = true := by simp; omega
      have hx1 : (q : Int) < (n : Int) := by omega
      clear hcx
      go_upto_block 2 with ((go_at_call 23; refine (HPK.out _).mono ?_; rintro e wx ⟨rfl, hx⟩; rw [hx]; clear hx wx))
      have hL : L.length + 1 < 2199023255552 := by omega
      have HST : Hid (∀ (w' : World) (L' : List Ac) F' (t : Int) (a : Ad) (z : Int), Gm w w' bs (.pointer (some ⟨M, 0, none⟩)) s L' F' → L'.length ≤ L.length + 1 → Calls Try.prog 19 #[.pointer (some ⟨M, 0, none⟩), .int .i64 t, .agg #[.int .i64 a.k, .int .i64 a.i, .int .i64 a.j], .int .i64 z] w' fun e w'' => ∃ ea F'', e = .returned (.int .i64 ea) ∧ Gm w w'' bs (.pointer (some ⟨M, 0, none⟩)) s (storeL 1 s L' t a z) F'') := fun w' L' F' t a z h1 h2 => by
        refine (store_any h1.mem h1.size (by omega) t a z).mono ?_
        rintro e w'' ⟨rfl, F'', hm, hn⟩
        exact ⟨_, F'', rfl, h1.next hm hn⟩
      clear hcx2 HPK
      go_cut [9, 10, 11, 13, 14] (fun s9 s10 s11 s13 s14 wx => Grown_ w wx bs (.pointer (some ⟨M, 0, none⟩)) s (q + 1) s9 s10 s11)
      case first =>
        rcases (show m3 = 0 ∨ m3 = 1 ∨ m3 = 2 by omega) with rfl | rfl | rfl
        · by_cases hp : N < D + s
          · have hd2 : decide ((N : Int) - (D : Int) < (s : Int)) = true := by simp; omega
            have HA : Hid (isAd 1 s ⟨1, 0, 0⟩ = true) := rfl
            have HS1 : Hid (Calls Try.prog 19 #[.pointer (some ⟨M, 0, none⟩), .int .i64 1, .agg #[.int .i64 1, .int .i64 0, .int .i64 0], .int .i64 ((N : Int) + 1)] wr fun e w'' => ∃ ea F'', e = .returned (.int .i64 ea) ∧ Gm w w'' bs (.pointer (some ⟨M, 0, none⟩)) s (storeL 1 s L 1 ⟨1, 0, 0⟩ ((N : Int) + 1)) F'') := HST.out wr L F 1 ⟨1, 0, 0⟩ _ HGM.out (by omega)
            go_wp2_with fail
            refine HS1.out.mono ?_
            rintro e w5 ⟨ea, F5, rfl, hg5⟩
            go_wp2_with fail
            go_meet
            exact ⟨N + 1, A, D, _, F5, by simp, rfl, rfl, by omega, by have := storeL_len 1 s L 1 ⟨1, 0, 0⟩ ((N : Int) + 1); omega, hg5, by rw [storeL_word HA.out]; exact gr_pub HGR.out hp⟩
          · have hd2 : decide ((N : Int) - (D : Int) < (s : Int)) = false := by simp; omega
            go_wp2_with fail
            go_meet
            exact ⟨N, A, D, L, F, rfl, rfl, rfl, by omega, by omega, HGM.out, HGR.out⟩
        · by_cases hp : A < N
          · have hd2 : decide ((A : Int) < (N : Int)) = true := by simp; omega
            have htm : ((A : Int) + 1).tmod (s : Int) = ((A : Int) + 1) % (s : Int) := Int.tmod_eq_emod_of_nonneg (by omega)
            have hk0 := Int.emod_nonneg ((A : Int) + 1) (show (s : Int) ≠ 0 by omega)
            have hk1 := Int.emod_lt_of_pos ((A : Int) + 1) (show (0 : Int) < (s : Int) by omega)
            have hsz : ¬ (s : Int) = 0 := by omega
            have HGR2 : Hid (Gr (upd (upd (wordOf L) ⟨3, ((A : Int) + 1) % (s : Int), 3⟩ ((A : Int) + 1 + 7)) ⟨2, ((A : Int) + 1) % (s : Int), 0⟩ (2 * ((A : Int) + 1))) s N (A + 1) D) := by have := gr_lay HGR.out hp; rw [show ((A + 1 : Nat) : Int) = (A : Int) + 1 by omega] at this; exact this
            generalize ((A : Int) + 1) % (s : Int) = kk at *
            have HA1 : Hid (isAd 1 s ⟨3, kk, 3⟩ = true) := isAd_sig 1 s kk 3 hk0 hk1 (by decide) (by decide)
            have HA2 : Hid (isAd 1 s ⟨2, kk, 0⟩ = true) := isAd_head 1 s kk hk0 hk1
            have HS1 : Hid (Calls Try.prog 19 #[.pointer (some ⟨M, 0, none⟩), .int .i64 2, .agg #[.int .i64 3, .int .i64 kk, .int .i64 3], .int .i64 ((A : Int) + 1 + 7)] wr fun e w'' => ∃ ea F'', e = .returned (.int .i64 ea) ∧ Gm w w'' bs (.pointer (some ⟨M, 0, none⟩)) s (storeL 1 s L 2 ⟨3, kk, 3⟩ ((A : Int) + 1 + 7)) F'') := HST.out wr L F 2 ⟨3, kk, 3⟩ _ HGM.out (by omega)
            have HS2 : Hid (∀ w' F', Gm w w' bs (.pointer (some ⟨M, 0, none⟩)) s (storeL 1 s L 2 ⟨3, kk, 3⟩ ((A : Int) + 1 + 7)) F' → Calls Try.prog 19 #[.pointer (some ⟨M, 0, none⟩), .int .i64 2, .agg #[.int .i64 2, .int .i64 kk, .int .i64 0], .int .i64 (2 * ((A : Int) + 1))] w' fun e w'' => ∃ ea F'', e = .returned (.int .i64 ea) ∧ Gm w w'' bs (.pointer (some ⟨M, 0, none⟩)) s (storeL 1 s (storeL 1 s L 2 ⟨3, kk, 3⟩ ((A : Int) + 1 + 7)) 2 ⟨2, kk, 0⟩ (2 * ((A : Int) + 1))) F'') := fun w' F' h1 => HST.out w' _ F' 2 ⟨2, kk, 0⟩ _ h1 (storeL_len _ _ _ _ _ _)
            go_wp2_with fail
            refine HS1.out.mono ?_
            rintro e w5 ⟨ea, F5, rfl, hg5⟩
            have HS3 := HS2.out w5 F5 hg5
            clear hg5
            go_wp2_with fail
            refine HS3.mono ?_
            rintro e w6 ⟨eb, F6, rfl, hg6⟩
            go_wp2_with fail
            go_meet
            exact ⟨N, A + 1, D, _, F6, rfl, by simp, rfl, by omega, by have := storeL_len 1 s L 2 ⟨3, kk, 3⟩ ((A : Int) + 1 + 7); have := storeL_len 1 s (storeL 1 s L 2 ⟨3, kk, 3⟩ ((A : Int) + 1 + 7)) 2 ⟨2, kk, 0⟩ (2 * ((A : Int) + 1)); omega, hg6, by rw [storeL_word HA2.out, storeL_word HA1.out]; exact HGR2.out⟩
          · have hd2 : decide ((A : Int) < (N : Int)) = false := by simp; omega
            go_wp2_with fail
            go_meet
            exact ⟨N, A, D, L, F, rfl, rfl, rfl, by omega, by omega, HGM.out, HGR.out⟩
        · by_cases hp : D < A
          · have hd2 : decide ((D : Int) < (A : Int)) = true := by simp; omega
            have htm : ((D : Int) + 1).tmod (s : Int) = ((D : Int) + 1) % (s : Int) := Int.tmod_eq_emod_of_nonneg (by omega)
            have hk0 := Int.emod_nonneg ((D : Int) + 1) (show (s : Int) ≠ 0 by omega)
            have hk1 := Int.emod_lt_of_pos ((D : Int) + 1) (show (0 : Int) < (s : Int) by omega)
            have hsz : ¬ (s : Int) = 0 := by omega
            have HGR2 : Hid (Gr (upd (wordOf L) ⟨2, ((D : Int) + 1) % (s : Int), 0⟩ (2 * ((D : Int) + 1) + 1)) s N A (D + 1)) := by have := gr_done HGR.out hp; rw [show ((D + 1 : Nat) : Int) = (D : Int) + 1 by omega] at this; exact this
            generalize ((D : Int) + 1) % (s : Int) = kk at *
            have HA2 : Hid (isAd 1 s ⟨2, kk, 0⟩ = true) := isAd_head 1 s kk hk0 hk1
            have HS1 : Hid (Calls Try.prog 19 #[.pointer (some ⟨M, 0, none⟩), .int .i64 3, .agg #[.int .i64 2, .int .i64 kk, .int .i64 0], .int .i64 (2 * ((D : Int) + 1) + 1)] wr fun e w'' => ∃ ea F'', e = .returned (.int .i64 ea) ∧ Gm w w'' bs (.pointer (some ⟨M, 0, none⟩)) s (storeL 1 s L 3 ⟨2, kk, 0⟩ (2 * ((D : Int) + 1) + 1)) F'') := HST.out wr L F 3 ⟨2, kk, 0⟩ _ HGM.out (by omega)
            go_wp2_with fail
            refine HS1.out.mono ?_
            rintro e w5 ⟨ea, F5, rfl, hg5⟩
            go_wp2_with fail
            go_meet
            exact ⟨N, A, D + 1, _, F5, rfl, rfl, by simp, by omega, by have := storeL_len 1 s L 3 ⟨2, kk, 0⟩ (2 * ((D : Int) + 1) + 1); omega, hg5, by rw [storeL_word HA2.out]; exact HGR2.out⟩
          · have hd2 : decide ((D : Int) < (A : Int)) = false := by simp; omega
            go_wp2_with fail
            go_meet
            exact ⟨N, A, D, L, F, rfl, rfl, rfl, by omega, by omega, HGM.out, HGR.out⟩
      case rest =>
        clear HST hL HGM HGR hda han hnd hNq hLq hm0 hm1
        obtain ⟨N2, A2, D2, L2, F2, rfl, rfl, rfl, hNq, hLq, hgm, hgr⟩ := hcut
        have hda := hgr.da
        have han := hgr.an
        have hnd := hgr.nd
        have HG : Hid (Grown_ w wc bs (.pointer (some ⟨M, 0, none⟩)) s (q + 1) (.int .i64 (N2 : Int)) (.int .i64 (A2 : Int)) (.int .i64 (D2 : Int))) := ⟨N2, A2, D2, L2, F2, rfl, rfl, rfl, hNq, hLq, hgm, hgr⟩
        have HGL : Hid (∀ w', Below wc.heap.size wc w' → Grown_ w w' bs (.pointer (some ⟨M, 0, none⟩)) s (q + 1) (.int .i64 (N2 : Int)) (.int .i64 (A2 : Int)) (.int .i64 (D2 : Int))) := fun w' hb => ⟨N2, A2, D2, L2, F2, rfl, rfl, rfl, hNq, hLq, hgm.later hb, hgr⟩
        have hNb : wordOf L2 ⟨1, 0, 0⟩ ≤ 9223372036854775807 := by rw [hgr.n]; omega
        have HNE : Hid (Calls Try.prog 24 #[.pointer (some ⟨M, 0, none⟩)] wc fun e w' => e = .returned (.int .i64 (N2 : Int)) ∧ Below wc.heap.size wc w') := by rw [Hid, ← hgr.n]; exact newest_any hgm.mem
        have HCM : Hid (∀ w', Below wc.heap.size wc w' → Calls Try.prog 25 #[.pointer (some ⟨M, 0, none⟩)] w' fun e w'' => e = .returned (.int .i64 (D2 : Int)) ∧ Below w'.heap.size w' w'') := fun w' hb => by rw [← gr_complete hgr]; exact complete_any (hgm.mem.below hb) hs1 hs16 hNb
        have HEN : Hid (∀ w', Below wc.heap.size wc w' → Calls Try.prog 26 #[.pointer (some ⟨M, 0, none⟩)] w' fun e w'' => ∃ v, e = .returned v ∧ w''.ownsRow w'.heap.size 56 10 v (entsV (wordOf L2) s).length (entC (entsV (wordOf L2) s)) ∧ Below w'.heap.size w' w'') := fun w' hb => entries_any (hgm.mem.below hb) hs1 hs16 hNb
        have hml : (entsV (wordOf L2) s).length = N2 - (N2 - s) := by rw [entsV_len, gr_many hgr]
        have HEL : Hid (∀ k (hk : k < (entsV (wordOf L2) s).length), ∃ sg, (entsV (wordOf L2) s)[k] = ⟨((N2 - s : Nat) : Int) + 1 + k, (if ((N2 - s : Nat) : Int) + 1 + k ≤ (D2 : Int) then 3 else if ((N2 - s : Nat) : Int) + 1 + k ≤ (A2 : Int) then 2 else 1), sg⟩ ∧ sg 3 = (if ((N2 - s : Nat) : Int) + 1 + k ≤ (A2 : Int) then IntKind.u64.wrap (((N2 - s : Nat) : Int) + 1 + k + 7) else 0)) := fun k hk => by
          rw [ents_get, gr_before hgr]
          have hk' : k < N2 - (N2 - s) := by omega
          obtain ⟨e1, e2⟩ := gr_entry hgr (((N2 - s : Nat) : Int) + 1 + k) (by omega) (by omega) (by omega)
          refine ⟨(entryV (wordOf L2) s (((N2 - s : Nat) : Int) + 1 + k)).sg, ?_, e2⟩
          rw [← e1]
          rfl
        clear hgm hgr hNb
        generalize entsV (wordOf L2) s = es at *
        obtain ⟨m, hm⟩ : ∃ m, es.length = m := ⟨_, rfl⟩
        rw [hm] at hml
        have HM : Hid (es.length = m) := hm
        have HML : Hid (m = N2 - (N2 - s)) := hml
        have hm16 : m ≤ 16 := by omega
        clear hml
        go_wp2_with fail
        refine HNE.out.mono ?_
        rintro e w5 ⟨rfl, hb5⟩
        have HB5 : Hid (Below wc.heap.size wc w5) := hb5
        clear hb5
        go_wp2_with fail
        refine (HCM.out _ HB5.out).mono ?_
        rintro e w6 ⟨rfl, hb6⟩
        have HB6 : Hid (Below wc.heap.size wc w6) := below_then HB5.out hb6
        clear hb6
        go_wp2_with fail
        refine (HEN.out _ HB6.out).mono ?_
        rintro e w7 ⟨lv, rfl, ho7, hb7⟩
        rw [hm] at ho7
        obtain ⟨a7, c7, rfl⟩ := own_slice ho7
        have HO7 : Hid (w7.ownsRow w6.heap.size 56 10 (.slice a7 m c7) m (entC es)) := ho7
        have HB7 : Hid (Below wc.heap.size wc w7) := below_then HB6.out hb7
        have HG7 : Hid (Grown_ w w7 bs (.pointer (some ⟨M, 0, none⟩)) s (q + 1) (.int .i64 (N2 : Int)) (.int .i64 (A2 : Int)) (.int .i64 (D2 : Int))) := HGL.out w7 HB7.out
        clear ho7 hb7 hm HNE HCM HEN HGL HG HB5 HB6 HB7
        have hmN : ((m : Int) != (N2 : Int)) = false ∨ (((m : Int) != (N2 : Int)) = true ∧ ((m : Int) != (s : Int)) = false) := by
          have := HML.out
          by_cases e : m = N2
          · exact Or.inl (by simp [e])
          · exact Or.inr ⟨by simp; omega, by simp; omega⟩
        have hnn : ((N2 : Int) != (N2 : Int)) = false := by simp
        have hdd : ((D2 : Int) != (D2 : Int)) = false := by simp
        rcases hmN with hb1 | ⟨hb1, hb2⟩
        all_goals
          clear HC HG3 hxb
          go_wp2_with fail
          go_loopg [18] m (fun gj kv wq => ∃ k : Nat, k + gj = m ∧ kv = .int .i64 k ∧ wq = w7)
          case atStart => exact ⟨0, by omega, rfl, rfl⟩
          case round =>
            obtain ⟨k, hk, rfl, hwq⟩ := hrel
            rw [hwq]
            clear hwq
            by_cases hlk : k < m
            · have hdk : decide ((k : Int) < (m : Int)) = true := by simp; omega
              have hk1 : (k : Int) < (m : Int) := by omega
              have hkL : k < es.length := by rw [HM.out]; exact hlk
              obtain ⟨sg, hes, hsg⟩ := HEL.out k hkL
              obtain ⟨g, cap, hform, _, _⟩ := HO7.out.form (by omega)
              obtain ⟨rfl, _, rfl⟩ : a7 = some ⟨g, 0, none⟩ ∧ m = m ∧ c7 = cap := by simpa using hform
              clear hform
              have hown : w7.ownsRow w6.heap.size 56 10 (.slice (some ⟨g, 0, none⟩) es.length c7) es.length (entC es) := by rw [HM.out]; exact HO7.out
              obtain ⟨d0, d1, d2, d3, d4, d5, d6, d7, d8, d9⟩ := own_ent hown k hkL _ _ _ hes
              obtain ⟨tt, htt⟩ : ∃ tt : Int, (N2 : Int) - ((m : Int) - 1 - (k : Int)) = tt := ⟨_, rfl⟩
              have htt2 : ((N2 - s : Nat) : Int) + 1 + (k : Int) = tt := by have := HML.out; omega
              rw [htt2] at d0 d1 hsg
              rw [hsg] at d5
              have htb : 1 ≤ tt ∧ tt ≤ (N2 : Int) := by have := HML.out; omega
              clear hes hsg hown hkL d2 d3 d4 d6 d7 d8 d9 htt2
              by_cases hD : tt ≤ (D2 : Int)
              · have hA : tt ≤ (A2 : Int) := by omega
                have b1 : decide (tt ≤ (D2 : Int)) = true := decide_eq_true hD
                have b2 : decide (tt ≤ (A2 : Int)) = true := decide_eq_true hA
                have b3 : decide (tt > (A2 : Int)) = false := decide_eq_false (by omega)
                rw [if_pos hD] at d1
                rw [if_pos hA, IntKind.wrap_u64, Int.emod_eq_of_lt (by omega) (by omega)] at d5
                clear hD hA
                go_wp2_with fail
                go_roundg (m - (k + 1))
                case measure => omega
                case rel => exact ⟨k + 1, by omega, by simp, rfl⟩
              · have b1 : decide (tt ≤ (D2 : Int)) = false := decide_eq_false hD
                rw [if_neg hD] at d1
                by_cases hA : tt ≤ (A2 : Int)
                · have b2 : decide (tt ≤ (A2 : Int)) = true := decide_eq_true hA
                  have b3 : decide (tt > (A2 : Int)) = false := decide_eq_false (by omega)
                  rw [if_pos hA] at d1
                  rw [if_pos hA, IntKind.wrap_u64, Int.emod_eq_of_lt (by omega) (by omega)] at d5
                  clear hD hA
                  go_wp2_with fail
                  go_roundg (m - (k + 1))
                  case measure => omega
                  case rel => exact ⟨k + 1, by omega, by simp, rfl⟩
                · have b2 : decide (tt ≤ (A2 : Int)) = false := decide_eq_false hA
                  have b3 : decide (tt > (A2 : Int)) = true := decide_eq_true (by omega)
                  rw [if_neg hA] at d1
                  rw [if_neg hA] at d5
                  clear hD hA
                  go_wp2_with fail
                  go_roundg (m - (k + 1))
                  case measure => omega
                  case rel => exact ⟨k + 1, by omega, by simp, rfl⟩
            · obtain rfl : k = m := by omega
              have hdk : decide ((k : Int) < (k : Int)) = false := by simp
              go_wp2_with fail
              go_roundg (n - (q + 1))
              case measure => omega
              case rel => exact ⟨q + 1, by omega, by simp, HG7.out⟩
    · obtain rfl : q = n := by omega
      have hd : decide ((q : Int) < (q : Int)) = false := by simp
      have HB : Hid (Below w.heap.size w wr) := HGM.out.bel
      go_wp2
      go_ret
      exact ⟨rfl, HB.out⟩
end Go.Proofs.Ytacioekmeildoaa
