/- CommitSoon walked. -/
import Derived.Test.YtfbbcjlbelnfaaaCmE
namespace Go.Proofs.Ytfbbcjlbelnfaaa
open Go.ChangeShapes Go.WideShapes Go.ChangeAt Go.RowKit
attribute [local go_sem ↓] Go.wp_at_zero Go.wp_at_succ

/-- A ring all of whose entries are complete. -/
structure SoW (w wr : World) (bs M Gk : Nat) (s i : Nat) (L : List Ac) (g : GR) : Prop where
  gf : GF w wr bs (.pointer (some ⟨M, 0, none⟩)) 1 L Gk g
  ro : RingOk L g s (2 * i)
  l : g.l.length = i
  la : g.laid = i
  d : g.done = i
theorem so_len {L : List Ac} {g : GR} {s i : Nat} (h : RingOk L g s (2 * i)) (hi : i < 40) : L.length < 3298534882000 ∧ 2 * i ≤ 2097152 := by
  have := h.len
  omega
theorem so_lt {q n : Nat} (h : q < n) (hn : n < 40) : wrap64 ((q : Int) + 1) = (q : Int) + 1 := by unfold wrap64; omega
theorem so_w {i : Nat} (h : i < 40) : wrap64 ((i : Int) + 1) = (i : Int) + 1 := by unfold wrap64; omega
set_option maxRecDepth 100000 in
set_option maxHeartbeats 6400000 in
theorem soon_walk (w : World) (raw : Int) (mu : Bool) (many last : Int) :
    Calls Try.prog 5 #[.agg #[.int .i64 raw, .bool mu, .int .i64 many, .int .i64 last]] w fun e w' => e = .returned (.bool true) ∧ Below w.heap.size w w' := by
  have HS : Hid (∀ w : World, Calls Try.prog 6 #[] w fun e w' => e = .returned (.bool true) ∧ Below w.heap.size w w') := mshown_any
  obtain ⟨s, hs1, hs16, hse⟩ : ∃ s : Nat, 1 ≤ s ∧ s ≤ 16 ∧ raw % 16 = (s : Int) - 1 := ⟨(raw % 16 + 1).toNat, by omega, by omega, by omega⟩
  obtain ⟨n, hn40, hne⟩ : ∃ n : Nat, n < 40 ∧ many % 40 = (n : Int) := ⟨(many % 40).toNat, by omega, by omega⟩
  obtain ⟨st, ht1, ht60, hte⟩ : ∃ st : Nat, 1 ≤ st ∧ st ≤ 60 ∧ last % 60 = (st : Int) - 1 := ⟨(last % 60 + 1).toNat, by omega, by omega, by omega⟩
  have HP : Hid (∀ w : World, Calls Try.prog 20 #[.int .i64 raw, .int .i64 16] w fun e w' => e = .returned (.int .i64 ((s : Int) - 1)) ∧ w' = w) := fun w => by rw [← hse]; exact gpick_any raw 16 (by decide) (by decide) w
  have HPN : Hid (∀ w : World, Calls Try.prog 20 #[.int .i64 many, .int .i64 40] w fun e w' => e = .returned (.int .i64 (n : Int)) ∧ w' = w) := fun w => by rw [← hne]; exact gpick_any many 40 (by decide) (by decide) w
  have HPT : Hid (∀ w : World, Calls Try.prog 20 #[.int .i64 last, .int .i64 60] w fun e w' => e = .returned (.int .i64 ((st : Int) - 1)) ∧ w' = w) := fun w => by rw [← hte]; exact gpick_any last 60 (by decide) (by decide) w
  have HN : Hid (∀ w : World, Calls Try.prog 10 #[.int .i64 1, .int .i64 (s : Int)] w fun e w' => ∃ p F, e = .returned (.tuple #[p, .int .i64 0]) ∧ p ≠ .pointer none ∧ MemAt w' w.heap.size p 1 s [] F ∧ Below w.heap.size w w') := fun w => new_yes w 1 s (by decide) ⟨hs1, hs16⟩
  have HMN : Hid (∀ w : World, Calls Try.prog 7 #[.agg #[.int .i64 0, .int .i64 (s : Int), .int .i64 0, .int .i64 (st : Int), .bool mu, .int .i64 0, .slice none 0 0], .int .i64 (n : Int), .agg #[.int .u64 3, .int .u64 0, .int .u64 0, .int .u64 0, .int .u64 0, .int .u64 0, .int .u64 0, .int .u64 1]] w fun e w' => ∃ Z X, e = .returned (.tuple #[.pointer (some ⟨Z, 0, none⟩), .int .i64 0]) ∧ w.heap.size ≤ Z ∧ w.heap.size ≤ X ∧ Z ≠ X ∧ CAt w' Z (soP s n st mu) cuNew (ptr X) ∧ KAt w' X (soP s n st mu) (ckNew (soP s n st mu)) ∧ Below w.heap.size w w') := fun w => mnew_yes w (P := soP s n st mu) ⟨hs1, hs16, by simp only [soP]; omega, by simp only [soP]; omega, soR_ok⟩ rfl (by simp only [soP]; omega) (by simp only [soP]; omega) 0 0 0 (.slice none 0 0)
  have HOK : Hid (COk (soP s n st mu) (ckNew (soP s n st mu)) cuNew) := cok_new ⟨hs1, hs16, by simp only [soP]; omega, by simp only [soP]; omega, soR_ok⟩ rfl (by simp only [soP]; omega) (by simp only [soP]; omega)
  have HBG : Hid (n < 40 ∧ 1 ≤ s ∧ s ≤ 16 ∧ 1 ≤ st ∧ st ≤ 60) := ⟨hn40, hs1, hs16, ht1, ht60⟩
  have w1b : 1 + ((s : Int) - 1) = (s : Int) := by omega
  have w1c : wrap64 (s : Int) = (s : Int) := z_wrap (by omega) (by omega)
  have w1 : wrap64 (1 + ((s : Int) - 1)) = (s : Int) := by rw [w1b, w1c]
  have w2b : 1 + ((st : Int) - 1) = (st : Int) := by omega
  have w2c : wrap64 (st : Int) = (st : Int) := z_wrap (by omega) (by omega)
  have w2 : wrap64 (1 + ((st : Int) - 1)) = (st : Int) := by rw [w2b, w2c]
  have w3 : wrap64 (n : Int) = (n : Int) := z_wrap (by omega) (by omega)
  clear hse hne hte hs1 hs16 hn40 ht1 ht60
  go_enter Try.func5, Try.ntmps5
  go_wp2_with fail
  refine (HS.out _).mono ?_
  rintro e y1 ⟨rfl, hb1⟩
  have HB1 : Hid (Below w.heap.size w y1) := by first | exact hb1 | exact below_then (below_a1 _ _) hb1
  clear hb1
  go_wp2_with fail
  refine (HP.out _).mono ?_
  rintro e y2 ⟨rfl, rfl⟩
  go_wp2_with fail
  refine (HN.out _).mono ?_
  rintro e y3 ⟨p, F3, rfl, _, hm3, hb3⟩
  obtain ⟨M, rfl⟩ := hm3.ptr
  have HE3 : Hid (SoW w (y3.alloc (.cells #[.int .i64 (s : Int), .slice none 0 0, .int .i64 0, .int .i64 0] 71)) y2.heap.size M y3.heap.size s 0 [] ⟨s, [], 0, 0⟩) :=
    ⟨gf_new (below_then HB1.out hb3) hm3 HB1.out.size hb3.size, ⟨⟨HBG.out.2.1, HBG.out.2.2.1, Nat.le_refl _, Nat.le_refl _, by simp⟩, gz_zero s, gs_zero s, rfl, by simp, by simp⟩, rfl, rfl, rfl⟩
  clear hm3 hb3
  go_wp2_with fail
  refine (HPN.out _).mono ?_
  rintro e y4 ⟨rfl, rfl⟩
  go_wp2
  generalize y2.heap.size = bs at HE3 ⊢
  generalize y3.heap.size = Gk at HE3 ⊢
  go_loopw [13] (fun iv wr => ∃ (q : Nat) (L : List Ac) (g : GR), q ≤ n ∧ iv = .int .i64 q ∧ SoW w wr bs M Gk s q L g) (fun iv _ => n - (intOf iv).toNat)
  case atStart => exact ⟨0, [], ⟨s, [], 0, 0⟩, Nat.zero_le _, rfl, HE3.out⟩
  case round =>
    obtain ⟨q, L, g, hq, rfl, hso⟩ := hrel
    have HE : Hid (SoW w wr bs M Gk s q L g) := hso
    clear hso HE3
    by_cases hlt : q < n
    · have d1 : decide ((q : Int) < (n : Int)) = true := decide_eq_true (Int.ofNat_lt.2 hlt)
      have hw1 : wrap64 ((q : Int) + 1) = (q : Int) + 1 := so_lt hlt HBG.out.1
      have HA1 : Hid (∀ w', GF w w' bs (.pointer (some ⟨M, 0, none⟩)) 1 L Gk g → Calls Try.prog 21 #[.pointer (some ⟨Gk, 0, none⟩), (.pointer (some ⟨M, 0, none⟩)), .int .i64 0, .slice none 0 0] w' fun e w'' => e = .returned (.tuple #[]) ∧ GF w w'' bs (.pointer (some ⟨M, 0, none⟩)) 1 (actS 1 0 [] (g, L)).2 Gk (actS 1 0 [] (g, L)).1) := fun w' h => by
        have := so_len HE.out.ro (Nat.lt_trans hlt HBG.out.1)
        exact gf_act h this.1 HE.out.ro.gok (by decide) (by decide) 0 (.slice none 0 0) [] (wlst_nil _)
      have HA2 : Hid (∀ w', GF w w' bs (.pointer (some ⟨M, 0, none⟩)) 1 (actS 1 0 [] (g, L)).2 Gk (actS 1 0 [] (g, L)).1 → Calls Try.prog 21 #[.pointer (some ⟨Gk, 0, none⟩), (.pointer (some ⟨M, 0, none⟩)), .int .i64 4, .slice none 0 0] w' fun e w'' => e = .returned (.tuple #[]) ∧ ∃ L2 g2, SoW w w'' bs M Gk s (q + 1) L2 g2) := fun w' h => by
        have h40 := HBG.out.1
        have hl := so_len HE.out.ro (Nat.lt_trans hlt HBG.out.1)
        have r1 := (ringOk_act (c := 1) HE.out.ro hl.2 0 []).1
        have r2 := (ringOk_act (c := 1) r1 (by omega) 4 []).1
        have hl1 := r1.len
        refine (gf_act h (by omega) r1.gok (by decide) (by decide) 4 (.slice none 0 0) [] (wlst_nil _)).mono ?_
        rintro e w'' ⟨rfl, h2⟩
        obtain ⟨k1, k2, k3⟩ := soon_two (c := 1) (L := L) (by have := HE.out.ro.gok.s1; exact this) HE.out.l HE.out.la HE.out.d
        exact ⟨rfl, _, _, h2, r2, k1, k2, k3⟩
      go_wp2_with fail
      refine (HA1.out _ HE.out.gf).mono ?_
      rintro e y6 ⟨rfl, h6⟩
      have HG6 : Hid (GF w y6 bs (.pointer (some ⟨M, 0, none⟩)) 1 (actS 1 0 [] (g, L)).2 Gk (actS 1 0 [] (g, L)).1) := h6
      clear h6
      go_wp2_with fail
      refine (HA2.out _ HG6.out).mono ?_
      rintro e y7 ⟨rfl, h7⟩
      have HW7 : Hid (∃ L2 g2, SoW w y7 bs M Gk s (q + 1) L2 g2) := h7
      clear h7 HG6
      go_wp2
      go_roundw
      case rel =>
        obtain ⟨L2, g2, h8⟩ := HW7.out
        exact ⟨q + 1, L2, g2, hlt, by rw [hw1]; go_num, h8⟩
      case measure => rw [hw1]; simp [intOf]; exact z_meas hlt
    · obtain rfl : q = n := by omega
      have d1 : decide ((q : Int) < (q : Int)) = false := by simp
      clear hq hlt
      go_wp2_with fail
      refine (HPT.out _).mono ?_
      rintro e y8 ⟨rfl, rfl⟩
      go_wp2_with fail
      refine (HMN.out _).mono ?_
      rintro e y9 ⟨Z, X, rfl, hZ9, hX9, hne9, hz9, hx9, hb9⟩
      have HC9 : Hid (CW w y9 bs (.pointer (some ⟨M, 0, none⟩)) 1 L Z Gk g (soP s q st mu) (ckNew (soP s q st mu)) cuNew []) := cw_new HE.out.gf hb9 hX9 hZ9 hne9 hx9 hz9
      clear hZ9 hX9 hne9 hz9 hx9 hb9
      obtain ⟨P, hP⟩ : ∃ P, P = soP s q st mu := ⟨_, rfl⟩
      have HP0 : Hid (P.z = (q : Int) ∧ P.s = s ∧ P.ex.mu = mu ∧ P.ex.n = (st : Int) ∧ COk P (ckNew P) cuNew) := by rw [hP]; exact ⟨rfl, rfl, rfl, rfl, HOK.out⟩
      rw [← hP] at HC9
      clear hP HMN HOK
      have HZ : Hid (Gz (wordOf L) g ∧ GOk g ∧ (g.l.length : Int) = (q : Int) ∧ (g.done : Int) = (q : Int) ∧ g.size = P.s ∧ L.length < 3298534882000 ∧ P.z = (q : Int)) := ⟨HE.out.ro.gz, HE.out.ro.gok, by rw [HE.out.l], by rw [HE.out.d], by rw [HP0.out.2.1]; exact HE.out.ro.size, (so_len HE.out.ro HBG.out.1).1, HP0.out.1⟩
      clear HE
      have wq : wrap64 ((q : Int) + 1) = (q : Int) + 1 := so_w HBG.out.1
      by_cases hsp : st ≤ q
      · have hk : heldK P P.z = 4 ∧ heldE P P.z = 6 := by
          have : spent P P.z = true := by unfold spent; rw [HP0.out.1, HP0.out.2.2.2.1]; simp; omega
          unfold heldK heldE
          rw [this]
          exact ⟨rfl, rfl⟩
        have HT : Hid (Calls Try.prog 15 #[.pointer (some ⟨Z, 0, none⟩), .pointer (some ⟨M, 0, none⟩), .int .i64 1] y9 fun e w' => e = .returned (.agg #[.int .i64 4, .int .i64 6, .int .i64 0, .bool true]) ∧ Below w.heap.size w w') := by
          refine (cw_soon1 HC9.out (by have := HZ.out.2.2.2.2.2.1; omega) HP0.out.2.2.2.2 HZ.out.1 HZ.out.2.1 (by rw [HP0.out.1]; exact HZ.out.2.2.1) HZ.out.2.2.2.2.1 1).mono ?_
          rintro e w' ⟨rfl, L1, _, h1⟩
          rw [hk.1, hk.2]
          exact ⟨rfl, h1.bel⟩
        have d2 : decide ((st : Int) ≤ (q : Int)) = true := decide_eq_true (Int.ofNat_le.2 hsp)
        clear hk
        go_wp2_with fail
        refine HT.out.mono ?_
        rintro e y10 ⟨rfl, hb10⟩
        have HB10 : Hid (Below w.heap.size w y10) := hb10
        clear hb10 HT HC9
        go_wp2
        go_ret
        exact ⟨rfl, below_alloc HB10.out _⟩
      · have hk : heldK P P.z = 2 ∧ heldE P P.z = 0 := by
          have : spent P P.z = false := by unfold spent; rw [HP0.out.1, HP0.out.2.2.2.1]; simp; omega
          unfold heldK heldE
          rw [this]
          exact ⟨rfl, rfl⟩
        have hu : heldU P cuNew P.z = if q = 0 ∧ mu = false then ⟨2, q, 0⟩ else ⟨1, q, 0⟩ := by
          have : spent P P.z = false := by unfold spent; rw [HP0.out.1, HP0.out.2.2.2.1]; simp; omega
          unfold heldU
          rw [this, HP0.out.1, HP0.out.2.2.1]
          simp [cuNew]
        have d2 : decide ((st : Int) ≤ (q : Int)) = false := decide_eq_false (fun e => hsp (Int.ofNat_le.1 e))
        have HT : Hid (Calls Try.prog 15 #[.pointer (some ⟨Z, 0, none⟩), .pointer (some ⟨M, 0, none⟩), .int .i64 1] y9 fun e w' => e = .returned (.agg #[.int .i64 2, .int .i64 0, .int .i64 0, .bool true]) ∧ ∃ L1, (wordOf L1 = wordOf L ∧ L1.length ≤ L.length + 1 ∧ COk P (soB P.z) (if q = 0 ∧ mu = false then ⟨2, q, 0⟩ else ⟨1, q, 0⟩)) ∧ CW w w' bs (.pointer (some ⟨M, 0, none⟩)) 1 L1 Z Gk g P (soB P.z) (if q = 0 ∧ mu = false then ⟨2, q, 0⟩ else ⟨1, q, 0⟩) []) := by
          have := cw_soon1 HC9.out (by have := HZ.out.2.2.2.2.2.1; omega) HP0.out.2.2.2.2 HZ.out.1 HZ.out.2.1 (by rw [HP0.out.1]; exact HZ.out.2.2.1) HZ.out.2.2.2.2.1 1
          rw [hk.1, hk.2, hu] at this
          exact this
        have hspI : ¬ ((st : Int) ≤ (q : Int)) := fun e => hsp (Int.ofNat_le.1 e)
        clear hk hu
        go_wp2_with fail
        refine HT.out.mono ?_
        rintro e y10 ⟨rfl, L1, h10, c10⟩
        have HC10 : Hid (CW w (y10.alloc (.cells #[.int .i64 2, .int .i64 0, .int .i64 0, .bool true] 52)) bs (.pointer (some ⟨M, 0, none⟩)) 1 L1 Z Gk g P (soB P.z) (if q = 0 ∧ mu = false then ⟨2, q, 0⟩ else ⟨1, q, 0⟩) ((y10.heap.size, ansOW 2 0 0 true) :: [])) := c10.more _
        have H10 : Hid (wordOf L1 = wordOf L ∧ L1.length ≤ L.length + 1 ∧ COk P (soB P.z) (if q = 0 ∧ mu = false then ⟨2, q, 0⟩ else ⟨1, q, 0⟩)) := h10
        clear c10 h10 HT HC9
        by_cases h00 : q = 0 ∧ mu = false
        · obtain ⟨rfl, rfl⟩ := h00
          have hs0 : ¬ (st = 0) := by omega
          have hs0I : ¬ ((st : Int) ≤ 0) := by omega
          have hs0d : decide ((st : Int) ≤ 0) = false := decide_eq_false hs0I
          rw [if_pos ⟨rfl, rfl⟩] at HC10 H10
          have HT2 : Hid (Calls Try.prog 15 #[.pointer (some ⟨Z, 0, none⟩), .pointer (some ⟨M, 0, none⟩), .int .i64 1] (y10.alloc (.cells #[.int .i64 2, .int .i64 0, .int .i64 0, .bool true] 52)) fun e w' => e = .returned (.agg #[.int .i64 3, .int .i64 0, .int .i64 1, .bool true]) ∧ ∃ L2, (L2.length ≤ L1.length + 1 ∧ COk P (soB P.z) ⟨3, 0, 1⟩) ∧ CW w w' bs (.pointer (some ⟨M, 0, none⟩)) 1 L2 Z Gk g P (soB P.z) ⟨3, 0, 1⟩ ((y10.heap.size, ansOW 2 0 0 true) :: [])) := cw_soon3 HC10.out (by have := HZ.out.2.2.2.2.2.1; have := H10.out.2.1; omega) H10.out.2.2 (by rw [H10.out.1]; exact HZ.out.1) HZ.out.2.2.1 HZ.out.2.2.2.2.1 1
          go_wp2_with fail
          refine HT2.out.mono ?_
          rintro e y11 ⟨rfl, L2, h11, c11⟩
          have HC11 : Hid (CW w (y11.alloc (.cells #[.int .i64 3, .int .i64 0, .int .i64 1, .bool true] 52)) bs (.pointer (some ⟨M, 0, none⟩)) 1 L2 Z Gk g P (soB P.z) ⟨3, 0, 1⟩ ((y11.heap.size, ansOW 3 0 1 true) :: ((y10.heap.size, ansOW 2 0 0 true) :: []))) := c11.more _
          have HT3 : Hid (Calls Try.prog 15 #[.pointer (some ⟨Z, 0, none⟩), .pointer (some ⟨M, 0, none⟩), .int .i64 1] (y11.alloc (.cells #[.int .i64 3, .int .i64 0, .int .i64 1, .bool true] 52)) fun e w' => e = .returned (.agg #[.int .i64 0, .int .i64 0, .int .i64 0, .bool false]) ∧ ∃ L3, CW w w' bs (.pointer (some ⟨M, 0, none⟩)) 1 L3 Z Gk g P (soB P.z) ⟨3, 0, 1⟩ ((y11.heap.size, ansOW 3 0 1 true) :: ((y10.heap.size, ansOW 2 0 0 true) :: []))) := cw_soon0 HC11.out (by have := HZ.out.2.2.2.2.2.1; have := H10.out.2.1; have := h11.1; omega) h11.2 1
          clear c11 h11 HT2 HC10
          go_wp2_with fail
          refine HT3.out.mono ?_
          rintro e y12 ⟨rfl, L3, c12⟩
          have HC12 : Hid (CW w (y12.alloc (.cells #[.int .i64 0, .int .i64 0, .int .i64 0, .bool false] 52)) bs (.pointer (some ⟨M, 0, none⟩)) 1 L3 Z Gk g P (soB P.z) ⟨3, 0, 1⟩ ((y12.heap.size, ansOW 0 0 0 false) :: ((y11.heap.size, ansOW 3 0 1 true) :: ((y10.heap.size, ansOW 2 0 0 true) :: [])))) := c12.more _
          have HT4 : Hid (Calls Try.prog 24 #[.pointer (some ⟨Z, 0, none⟩)] (y12.alloc (.cells #[.int .i64 0, .int .i64 0, .int .i64 0, .bool false] 52)) fun e w' => e = .returned (.tuple #[.int .i64 1, .bool true]) ∧ CW w w' bs (.pointer (some ⟨M, 0, none⟩)) 1 L3 Z Gk g P (soB P.z) ⟨3, 0, 1⟩ ((y12.heap.size, ansOW 0 0 0 false) :: ((y11.heap.size, ansOW 3 0 1 true) :: ((y10.heap.size, ansOW 2 0 0 true) :: [])))) := cw_stamp HC12.out
          clear c12 HT3 HC11
          go_wp2_with fail
          refine HT4.out.mono ?_
          rintro e y13 ⟨rfl, c13⟩
          have HB13 : Hid (Below w.heap.size w y13) := c13.bel
          obtain ⟨⟨a0, _, _, _⟩, _⟩ := ansW_cells (k := 2) (e := 0) (v := 0) (y := true) (c13.row (B := y10.heap.size) (o := ansOW 2 0 0 true) (by simp))
          obtain ⟨⟨a1, _, _, _⟩, _⟩ := ansW_cells (k := 3) (e := 0) (v := 1) (y := true) (c13.row (B := y11.heap.size) (o := ansOW 3 0 1 true) (by simp))
          obtain ⟨⟨a2, _, _, _⟩, _⟩ := ansW_cells (k := 0) (e := 0) (v := 0) (y := false) (c13.row (B := y12.heap.size) (o := ansOW 0 0 0 false) (by simp))
          clear c13 HT4 HC12
          go_wp2
          go_ret
          exact ⟨rfl, HB13.out⟩
        · rw [if_neg h00] at HC10 H10
          have HH : Hid (¬ (q = 0 ∧ mu = false)) := h00
          have HT2 : Hid (Calls Try.prog 15 #[.pointer (some ⟨Z, 0, none⟩), .pointer (some ⟨M, 0, none⟩), .int .i64 1] (y10.alloc (.cells #[.int .i64 2, .int .i64 0, .int .i64 0, .bool true] 52)) fun e w' => e = .returned (.agg #[.int .i64 2, .int .i64 0, .int .i64 0, .bool true]) ∧ ∃ L2, (wordOf L2 = wordOf L1 ∧ L2.length ≤ L1.length + 1 ∧ COk P (soB P.z) ⟨2, q, 0⟩) ∧ CW w w' bs (.pointer (some ⟨M, 0, none⟩)) 1 L2 Z Gk g P (soB P.z) ⟨2, q, 0⟩ ((y10.heap.size, ansOW 2 0 0 true) :: [])) := cw_soon2 HC10.out (by have := HZ.out.2.2.2.2.2.1; have := H10.out.2.1; omega) H10.out.2.2 (by rw [H10.out.1]; exact HZ.out.1) HZ.out.2.1 HZ.out.2.2.1 HZ.out.2.2.2.1 HZ.out.2.2.2.2.1 (fun hc => HH.out ⟨by omega, by rw [← HP0.out.2.2.1]; exact hc.2⟩) 1
          have d5 : q = 0 → mu = true := fun e => by
            cases mu
            · exact absurd ⟨e, rfl⟩ h00
            · rfl
          clear h00
          go_wp2_with fail
          refine HT2.out.mono ?_
          rintro e y11 ⟨rfl, L2, h11, c11⟩
          have HC11 : Hid (CW w (y11.alloc (.cells #[.int .i64 2, .int .i64 0, .int .i64 0, .bool true] 52)) bs (.pointer (some ⟨M, 0, none⟩)) 1 L2 Z Gk g P (soB P.z) ⟨2, q, 0⟩ ((y11.heap.size, ansOW 2 0 0 true) :: ((y10.heap.size, ansOW 2 0 0 true) :: []))) := c11.more _
          have HT3 : Hid (Calls Try.prog 15 #[.pointer (some ⟨Z, 0, none⟩), .pointer (some ⟨M, 0, none⟩), .int .i64 1] (y11.alloc (.cells #[.int .i64 2, .int .i64 0, .int .i64 0, .bool true] 52)) fun e w' => e = .returned (.agg #[.int .i64 3, .int .i64 0, .int .i64 ((q : Int) + 1), .bool true]) ∧ ∃ L3, (L3.length ≤ L2.length + 1 ∧ COk P (soB P.z) ⟨3, q, (q : Int) + 1⟩) ∧ CW w w' bs (.pointer (some ⟨M, 0, none⟩)) 1 L3 Z Gk g P (soB P.z) ⟨3, q, (q : Int) + 1⟩ ((y11.heap.size, ansOW 2 0 0 true) :: ((y10.heap.size, ansOW 2 0 0 true) :: []))) := cw_soon3 HC11.out (by have := HZ.out.2.2.2.2.2.1; have := H10.out.2.1; have := h11.2.1; omega) h11.2.2 (by rw [h11.1, H10.out.1]; exact HZ.out.1) HZ.out.2.2.1 HZ.out.2.2.2.2.1 1
          clear c11 h11 HT2 HC10
          go_wp2_with fail
          refine HT3.out.mono ?_
          rintro e y12 ⟨rfl, L3, _, c12⟩
          have HC12 : Hid (CW w (y12.alloc (.cells #[.int .i64 3, .int .i64 0, .int .i64 ((q : Int) + 1), .bool true] 52)) bs (.pointer (some ⟨M, 0, none⟩)) 1 L3 Z Gk g P (soB P.z) ⟨3, q, (q : Int) + 1⟩ ((y12.heap.size, ansOW 3 0 ((q : Int) + 1) true) :: ((y11.heap.size, ansOW 2 0 0 true) :: ((y10.heap.size, ansOW 2 0 0 true) :: [])))) := c12.more _
          have hqn : (((q : Int) + 1) != 0) = true := by simp; omega
          have HT4 : Hid (Calls Try.prog 24 #[.pointer (some ⟨Z, 0, none⟩)] (y12.alloc (.cells #[.int .i64 3, .int .i64 0, .int .i64 ((q : Int) + 1), .bool true] 52)) fun e w' => e = .returned (.tuple #[.int .i64 ((q : Int) + 1), .bool true]) ∧ CW w w' bs (.pointer (some ⟨M, 0, none⟩)) 1 L3 Z Gk g P (soB P.z) ⟨3, q, (q : Int) + 1⟩ ((y12.heap.size, ansOW 3 0 ((q : Int) + 1) true) :: ((y11.heap.size, ansOW 2 0 0 true) :: ((y10.heap.size, ansOW 2 0 0 true) :: [])))) := by
            have := cw_stamp HC12.out
            rw [hqn] at this
            exact this
          clear c12 HT3 HC11 hqn
          go_wp2_with fail
          refine HT4.out.mono ?_
          rintro e y13 ⟨rfl, c13⟩
          have HB13 : Hid (Below w.heap.size w y13) := c13.bel
          obtain ⟨⟨a0, _, _, _⟩, _⟩ := ansW_cells (k := 2) (e := 0) (v := 0) (y := true) (c13.row (B := y10.heap.size) (o := ansOW 2 0 0 true) (by simp))
          obtain ⟨⟨a1, _, _, _⟩, _⟩ := ansW_cells (k := 2) (e := 0) (v := 0) (y := true) (c13.row (B := y11.heap.size) (o := ansOW 2 0 0 true) (by simp))
          obtain ⟨⟨a2, _, _, _⟩, _⟩ := ansW_cells (k := 3) (e := 0) (v := (q : Int) + 1) (y := true) (c13.row (B := y12.heap.size) (o := ansOW 3 0 ((q : Int) + 1) true) (by simp))
          clear c13 HT4 HC12 HZ
          by_cases hq0 : q = 0
          · have hm := d5 hq0
            subst hm
            subst hq0
            have hs0 : ¬ (st = 0) := by omega
            clear d5
            go_wp2
            go_ret
            exact ⟨rfl, HB13.out⟩
          · have d6 : ((q : Int) == 0) = false := by simp; omega
            clear d5 hq0
            go_wp2
            go_ret
            exact ⟨rfl, HB13.out⟩
end Go.Proofs.Ytfbbcjlbelnfaaa
