/- The law TableOwns, walked. -/
import Derived.Test.YtpkbjdpoflipmaaTabL
namespace Go.Proofs.Ytpkbjdpoflipmaa
open Go.ChangeShapes Go.WideShapes Go.ChangeAt Go.RowKit

/-- Some row that the call owns, whatever is in it. -/
def SomeRow (w : World) (base : Nat) (e : TypeId) (k : Nat) (v : Value) (n : Nat) : Prop := ∃ xs, w.ownsRow base e k v n xs
theorem SomeRow.set {w : World} {base g n cap k : Nat} {e : TypeId} (h : SomeRow w base e k (.slice (some ⟨g, 0, none⟩) n cap) n) (o : Nat) (v : Value) : SomeRow (w.setCell ⟨g, o, none⟩ v) base e k (.slice (some ⟨g, 0, none⟩) n cap) n := by
  obtain ⟨xs, h⟩ := h
  exact own_setCell h o v
theorem SomeRow.other {w : World} {base base' g n cap k k' n' : Nat} {e e' : TypeId} {v : Value} (h : SomeRow w base e k v n) (hg : SomeRow w base' e' k' (.slice (some ⟨g, 0, none⟩) n' cap) n') (he : e ≠ e') (o : Nat) (u : Value) : SomeRow (w.setCell ⟨g, o, none⟩ u) base e k v n := by
  obtain ⟨xs, h⟩ := h
  obtain ⟨ys, hg⟩ := hg
  refine ⟨xs, own_keep h ((Keep.refl [g] _).setCell _ _ (by simp)) (fun b hb hm => ?_)⟩
  simp only [List.mem_cons, List.not_mem_nil, or_false] at hm
  subst hm
  rcases hg.2 with ⟨e1, _⟩ | ⟨g', cap', cur, e1, _, hgg, _⟩
  · cases e1
  · simp at e1
    obtain ⟨rfl, rfl⟩ := e1
    exact own_ne h hgg (fun e2 => he e2.symm) hb
theorem SomeRow.keep {w w' : World} {base n k : Nat} {e : TypeId} {v : Value} (h : SomeRow w base e k v n) (hb : Below w.heap.size w w') : SomeRow w' base e k v n := by
  obtain ⟨xs, h⟩ := h
  exact ⟨xs, own_keep h (Keep.of_below hb []) (fun _ _ => by simp)⟩

set_option maxRecDepth 100000 in
theorem towns_no (w : World) (m : Int) (va : Option Addr) (n vcap : Nat) (h : ¬ (1 ≤ m ∧ m ≤ 24)) :
    Calls Try.prog 6 #[.int .i64 m, .slice va n vcap] w fun e w' => e = .returned (.bool true) ∧ Below w.heap.size w w' := by
  have HN : Hid (∀ w : World, Calls Try.prog 9 #[.int .i64 m] w fun e w' => e = .returned (.tuple #[.pointer none, .int .i64 1]) ∧ w' = w) := fun w => tnew_no w m h
  have HR : Hid (∀ w : World, Calls Try.prog 10 #[.int .i64 m] w fun e w' => e = .returned (.tuple #[.pointer none, .int .i64 1]) ∧ w' = w) := fun w => rnew_no w m h
  clear h
  go_enter Try.func6, Try.ntmps6
  go_wp2_with fail
  refine (HN.out _).mono ?_
  rintro e w1 ⟨rfl, rfl⟩
  go_wp2_with fail
  refine (HR.out _).mono ?_
  rintro e w2 ⟨rfl, rfl⟩
  go_wp2
  go_ret
  exact ⟨rfl, Below.refl _ _⟩

set_option maxRecDepth 100000 in
set_option maxHeartbeats 3200000 in
theorem towns_yes (w : World) (m : Nat) (h1 : 1 ≤ m) (h24 : m ≤ 24) (u : Value) (nu : Nat) (fu : Nat → Nat → Int) (hu : CLst w u 2 nu fu) :
    Calls Try.prog 6 #[.int .i64 (m : Int), u] w fun e w' => e = .returned (.bool true) ∧ Below w.heap.size w w' := by
  obtain ⟨i0, hinf, hz0, hz1, hz2⟩ := info_parts info_wr
  have HN : Hid (∀ w : World, Calls Try.prog 9 #[.int .i64 (m : Int)] w fun e w' => ∃ B, e = .returned (.tuple #[.pointer (some ⟨B, 0, none⟩), .int .i64 0]) ∧ w.heap.size ≤ B ∧ TabAt w' B (empty m) ∧ Below w.heap.size w w') := fun w => tnew_yes w m h1 h24
  have HR : Hid (∀ w : World, Calls Try.prog 10 #[.int .i64 (m : Int)] w fun e w' => ∃ p G, e = .returned (.tuple #[p, .int .i64 0]) ∧ RTab w' w.heap.size p (empty m) G ∧ Below w.heap.size w w') := fun w => rnew_yes w m h1 h24
  have HM : Hid (1 ≤ m ∧ m ≤ 24) := ⟨h1, h24⟩
  obtain ⟨ua, ucap, rfl, hbigu, hlu⟩ := hu
  have HCU : Hid (∀ i, i < nu → ∃ x, ua = some x ∧ x.block < w.heap.size ∧ ∀ j, j < 2 → w.cell? ((x.add (i * 2)).add j) = some (.int .i64 (fu i j))) := by
    intro i hi
    rcases hlu with h0 | ⟨x, hx, hxb, hcc⟩
    · exact absurd hi (by omega)
    · exact ⟨x, hx, hxb, hcc i hi⟩
  clear hlu h1 h24
  go_enter Try.func6, Try.ntmps6
  go_wp2_with fail
  refine (HN.out _).mono ?_
  rintro e w1 ⟨B, rfl, hB, ht, hb1⟩
  have HW1 : Hid (w.heap.size ≤ B ∧ TabAt w1 B (empty m) ∧ Below w.heap.size w w1) := ⟨hB, ht, hb1⟩
  clear hB ht hb1
  go_wp2_with fail
  refine (HR.out _).mono ?_
  rintro e w2 ⟨q0, G2, rfl, hr, hb2⟩
  obtain ⟨X, rfl⟩ := hr.ptr
  have HW2 : Hid (TWay w w2 B (.pointer (some ⟨X, 0, none⟩)) (empty m) G2) := TWay.make HM.out.1 HM.out.2 HW1.out.1 HW1.out.2.1 HW1.out.2.2 hr hb2
  clear hr hb2 HW1
  go_wp2
  go_loopw [9] (fun iv wr => ∃ i : Nat, i ≤ nu ∧ iv = .int .i64 i ∧ ∃ s G, TWay w wr B (.pointer (some ⟨X, 0, none⟩)) s G) (fun iv _ => nu - (intOf iv).toNat)
  case atStart => exact ⟨0, Nat.zero_le _, rfl, _, _, HW2.out⟩
  case round =>
    obtain ⟨i, hi, rfl, s, G, hway⟩ := hrel
    have HW : Hid (TWay w wr B (.pointer (some ⟨X, 0, none⟩)) s G) := hway
    clear hway HW2
    by_cases hlt : i < nu
    · obtain ⟨x, rfl, hxb, hrow⟩ := HCU.out i hlt
      have HROW : Hid (∀ w' : World, Below w.heap.size w w' → ∀ j, j < 2 → w'.cell? ((x.add (i * 2)).add j) = some (.int .i64 (fu i j))) := fun w' hb j hj => cell_later hb (by rw [add_block, add_block]; exact hxb) (hrow j hj)
      obtain ⟨d0, d1⟩ := CLst.two (w := wr) i (HROW.out wr HW.out.bel)
      clear hrow
      have hd : decide ((i : Int) < (nu : Int)) = true := by simp; omega
      have hx1 : (i : Int) < (nu : Int) := by omega
      have HPU : Hid (Calls Try.prog 18 #[.pointer (some ⟨B, 0, none⟩), .int .i64 (fu i 0), .int .i64 (fu i 1)] wr.drew fun e w' => e = .returned (.int .i64 (putE s (fu i 0))) ∧ TabAt w' B (put s (fu i 0) (fu i 1)) ∧ Keep [B] wr.drew w') := put_any (w := wr.drew) HW.out.duo.tab HW.out.duo.inv _ _
      have HD : Hid (TDuo wr.drew w.heap.size B (.pointer (some ⟨X, 0, none⟩)) s G) := HW.out.duo.below (below_drawn (Below.refl _ _) 1)
      have HTW : Hid (∀ w' : World, Below w.heap.size w w' → w'.cell? (x.add (i * 2)) = some (.int .i64 (fu i 0)) ∧ w'.cell? ⟨(x.add (i * 2)).block, (x.add (i * 2)).off + 1, none⟩ = some (.int .i64 (fu i 1))) := fun w' hb => CLst.two (w := w') i (HROW.out w' hb)
      clear HROW
      generalize fu i 0 = z0 at *
      generalize fu i 1 = z1 at *
      go_wp2
      go_region_with ((go_at_call 18; refine HPU.out.mono ?_; rintro e w2 ⟨rfl, ht, hk⟩))
      all_goals
        have hbe2 : Below w.heap.size w w2 := HW.out.bel.trans ((((Keep.refl [B] wr).drewN 1).trans hk (fun b hb => Or.inl hb)).below HW.out.bel.size (fun b hb => by simp at hb; rw [hb]; exact HW.out.duo.lo))
        have HRP : Hid (Calls Try.prog 23 #[.pointer (some ⟨X, 0, none⟩), .int .i64 z0, .int .i64 z1] w2.drew fun e w' => e = .returned (.int .i64 (putE s z0)) ∧ ∃ G', RTab w' w.heap.size (.pointer (some ⟨X, 0, none⟩)) (put s z0 z1) G' ∧ Next G G' w2.drew w') := rput_any (w := w2.drew) (HD.out.ref1 (hk.drewN 1)) HW.out.duo.inv (Nat.le_trans HD.out.size hk.size) z0 z1
        have HNX : Hid (∀ w' G', RTab w' w.heap.size (.pointer (some ⟨X, 0, none⟩)) (put s z0 z1) G' → Next G G' w2.drew w' → TWay w w' B (.pointer (some ⟨X, 0, none⟩)) (put s z0 z1) G') := fun w' G' hr hn => by
          obtain ⟨k1, k2⟩ := HD.out.step (w1 := w2.drew) ht (hk.drewN 1) hr hn (put_inv HW.out.duo.inv z0 z1)
          exact HW.out.next k1 ((Next.of_below (below_drawn (Below.refl _ _) 1) _).trans k2)
        obtain ⟨d0, d1⟩ := HTW.out w2 hbe2
        clear ht hk hbe2
        go_wp2
        go_region_with ((go_at_call 23; refine HRP.out.mono ?_; rintro e w3 ⟨rfl, G3, hr, hn⟩))
        all_goals
          have HW3 : Hid (TWay w w3 B (.pointer (some ⟨X, 0, none⟩)) (put s z0 z1) G3) := HNX.out _ _ hr hn
          clear hr hn
          go_wp2
          go_roundw
          case rel => exact ⟨i + 1, by omega, by go_num, _, _, HW3.out⟩
          case measure => simp [intOf]; omega
    · obtain rfl : i = nu := by omega
      clear hlt hi
      have hl24 : s.R.length ≤ 24 := Nat.le_trans HW.out.duo.inv.len HW.out.duo.inv.m24
      have h64 := HW.out.duo.inv.n64
      obtain ⟨y0, hy0⟩ : ∃ y0, y0 = wr := ⟨_, rfl⟩
      rw [← hy0] at HW ⊢
      clear hy0
      go_wp2_with fail
      refine (list_any HW.out.duo.tab HW.out.duo.inv).mono ?_
      rintro e y1 ⟨v1, rfl, ho1, hb1⟩
      have HB1 : Hid (Below y0.heap.size y0 y1) := hb1
      have HO1 : Hid (y1.ownsRow y0.heap.size 41 2 v1 s.R.length (rowsC s.R)) := ho1
      obtain ⟨a1, c1, rfl⟩ := own_slice ho1
      clear ho1 hb1
      go_wp2_with fail
      refine (slots_any (HW.out.duo.tab.below HB1.out) HW.out.duo.inv).mono ?_
      rintro e y2 ⟨v2, rfl, ho2, hb2⟩
      have HB2 : Hid (Below y0.heap.size y0 y2) := below_then HB1.out hb2
      have HO12 : Hid (y2.ownsRow y0.heap.size 41 2 (.slice a1 s.R.length c1) s.R.length (rowsC s.R)) := own_keep HO1.out (Keep.of_below hb2 []) (fun _ _ => by simp)
      have HS2 : Hid (SomeRow y2 y0.heap.size 3 1 v2 (2 ^ s.k)) := ⟨_, own_base ho2 HB1.out.size⟩
      obtain ⟨g2, c2, rfl, _, _⟩ := ho2.form (pw_pos _)
      clear ho2 hb2 HO1 HB1
      generalize 2 ^ s.k = N at *
      obtain ⟨nR, hnR⟩ : ∃ nR, nR = s.R.length := ⟨_, rfl⟩
      rw [← hnR] at HO12 hl24 ⊢
      clear hnR
      have hsz2 := HB2.out.size
      go_wp2_with (at_builtin; refine wpList_append_lies _ rfl _ _ 34 rfl y0.heap.size 41 i0 _ 2 16 Try.underlying34 hinf hz0 hz1 hz2 rfl (by decide) _ _ _ rfl (HO12.out.alloc _) ⟨y2.heap.size, 0, none⟩ 1 1 [.int .i64 5, .int .i64 5] rfl rfl ?e1 ?e2 (by decide) ?e3 ?e4 ?e5 _ rfl ?_)
      case e1 => exact World.news_of_block (cs := #[.int .i64 5, .int .i64 5]) (t := 41) (fr := (0, 0)) (heap_alloc_new y2 _)
      case e2 => simp [Value.oneCell']
      case e3 => unfold maxLen; omega
      case e4 => omega
      case e5 => first | omega | (simp; omega)
      intro gg cap' y3 hown1 hgrow hat _
      have HS3 : Hid (SomeRow y3 y0.heap.size 41 2 (.slice (some ⟨gg, 0, none⟩) (nR + 1) cap') (nR + 1)) := ⟨_, hown1⟩
      have HI3 : Hid (SomeRow y3 y0.heap.size 3 1 (.slice (some ⟨g2, 0, none⟩) N c2) N) := by
        obtain ⟨xs, hx⟩ := HS2.out
        exact ⟨xs, (hx.alloc _).kept hgrow (own_apart hx HO12.out (by decide))⟩
      have HB3 : Hid (Below y0.heap.size y0 y3) := (below_alloc HB2.out _).grown hgrow (by simp; omega) (fun b hb => (own_block HO12.out b hb).1)
      clear hown1 hgrow hat HO12 HS2 HB2 hsz2
      go_wp2
      go_loopw [12] (fun iv wr => ∃ j : Nat, j ≤ nR + 1 ∧ iv = .int .i64 j ∧ SomeRow wr y0.heap.size 41 2 (.slice (some ⟨gg, 0, none⟩) (nR + 1) cap') (nR + 1) ∧ SomeRow wr y0.heap.size 3 1 (.slice (some ⟨g2, 0, none⟩) N c2) N ∧ Below y0.heap.size y0 wr) (fun iv _ => nR + 1 - (intOf iv).toNat)
      case atStart => exact ⟨0, Nat.zero_le _, rfl, HS3.out, HI3.out, HB3.out⟩
      case round =>
        obtain ⟨j, hj, rfl, hs, hn, hb⟩ := hrel
        have HS : Hid (SomeRow wr y0.heap.size 41 2 (.slice (some ⟨gg, 0, none⟩) (nR + 1) cap') (nR + 1)) := hs
        have HI : Hid (SomeRow wr y0.heap.size 3 1 (.slice (some ⟨g2, 0, none⟩) N c2) N) := hn
        have HB : Hid (Below y0.heap.size y0 wr) := hb
        clear hn hb HS3 HI3 HB3
        by_cases hlt : j < nR + 1
        · obtain ⟨xs, hx⟩ := hs
          obtain ⟨⟨u0, d0⟩, f0⟩ := own_some hx (j * 2) (by omega)
          obtain ⟨⟨u1, d1⟩, f1⟩ := own_some hx (j * 2 + 1) (by omega)
          have hgl : y0.heap.size ≤ gg := (own_block hx gg rfl).1
          clear hx
          have hd : decide ((j : Int) < (nR : Int) + 1) = true := by simp; omega
          have hx1 : (j : Int) < (nR : Int) + 1 := by omega
          go_wp2
          go_roundw
          case rel => exact ⟨j + 1, by omega, by go_num, (HS.out.set _ _).set _ _, (HI.out.other HS.out (by decide) _ _).other (HS.out.set _ _) (by decide) _ _, (HB.out.setCell hgl _).setCell hgl _⟩
          case measure => simp [intOf]; omega
        · obtain rfl : j = nR + 1 := by omega
          clear hlt hj hs
          obtain ⟨y4, hy4⟩ : ∃ y4, y4 = wr := ⟨_, rfl⟩
          rw [← hy4] at HS HI HB ⊢
          clear hy4
          go_wp2
          go_loopw [13] (fun iv wr => ∃ j : Nat, j ≤ N ∧ iv = .int .i64 j ∧ SomeRow wr y0.heap.size 3 1 (.slice (some ⟨g2, 0, none⟩) N c2) N ∧ Below y0.heap.size y0 wr) (fun iv _ => N - (intOf iv).toNat)
          case atStart => exact ⟨0, Nat.zero_le _, rfl, HI.out, HB.out⟩
          case round =>
            obtain ⟨j, hj, rfl, hn, hb⟩ := hrel
            have HI5 : Hid (SomeRow wr y0.heap.size 3 1 (.slice (some ⟨g2, 0, none⟩) N c2) N) := hn
            have HB5 : Hid (Below y0.heap.size y0 wr) := hb
            clear hb HS HI HB
            by_cases hlt : j < N
            · obtain ⟨xs, hx⟩ := hn
              obtain ⟨⟨u0, d0⟩, f0⟩ := own_some hx j (by omega)
              have hgl : y0.heap.size ≤ g2 := (own_block hx g2 rfl).1
              clear hx
              have hd : decide ((j : Int) < (N : Int)) = true := by simp; omega
              have hx1 : (j : Int) < (N : Int) := by omega
              go_wp2
              go_roundw
              case rel => exact ⟨j + 1, by omega, by go_num, HI5.out.set _ _, HB5.out.setCell hgl _⟩
              case measure => simp [intOf]; omega
            · obtain rfl : j = N := by omega
              clear hlt hj hn
              have HW5 : Hid (TWay w wr B (.pointer (some ⟨X, 0, none⟩)) s G) := HW.out.later HB5.out
              clear HI5 HB5
              go_wp2_with fail
              refine (list_any HW5.out.duo.tab HW5.out.duo.inv).mono ?_
              rintro e w1a ⟨v1, rfl, ho1, hb1⟩
              have HAa : Hid (TWay w w1a B (.pointer (some ⟨X, 0, none⟩)) s G) := HW5.out.later hb1
              have HOa : Hid (∃ b, w1a.ownsRow b 41 2 v1 s.R.length (rowsC s.R)) := ⟨_, ho1⟩
              obtain ⟨a1a, c1a, rfl⟩ := own_slice ho1
              clear ho1 hb1
              go_wp2_with fail
              refine (rlist_any HAa.out.duo.ref HAa.out.duo.inv).mono ?_
              rintro e w2a ⟨v2, rfl, ho2, hb2⟩
              have HBa : Hid (TWay w w2a B (.pointer (some ⟨X, 0, none⟩)) s G) := HAa.out.later hb2
              have HCa : Hid (Calls Try.prog 12 #[.slice a1a s.R.length c1a, v2] w2a fun e w' => e = .returned (.bool true) ∧ ∃ n, w' = w2a.drewN n) := by
                obtain ⟨b, hb⟩ := HOa.out
                exact samew_any _ (own_keep hb (Keep.of_below hb2 []) (fun _ _ => by simp)) ho2 (by have := Nat.le_trans HAa.out.duo.inv.len HAa.out.duo.inv.m24; omega)
              obtain ⟨a2a, c2a, rfl⟩ := own_slice ho2
              clear ho2 hb2
              go_wp2_with fail
              refine HCa.out.mono ?_
              rintro e w3a ⟨rfl, nd, hw3⟩
              have HEa : Hid (TWay w w3a B (.pointer (some ⟨X, 0, none⟩)) s G) := by rw [hw3]; exact HBa.out.later (below_drawn (Below.refl _ _) _)
              clear hw3 HCa HOa HAa HBa
              go_wp2_with fail
              refine (slots_any HEa.out.duo.tab HEa.out.duo.inv).mono ?_
              rintro e w1b ⟨v1, rfl, ho1, hb1⟩
              have HAb : Hid (TWay w w1b B (.pointer (some ⟨X, 0, none⟩)) s G) := HEa.out.later hb1
              have HOb : Hid (∃ b, w1b.ownsRow b 3 1 v1 (2 ^ s.k) (slotsC s)) := ⟨_, ho1⟩
              obtain ⟨a1b, c1b, rfl⟩ := own_slice ho1
              clear ho1 hb1
              go_wp2_with fail
              refine (rslots_any HAb.out.duo.ref HAb.out.duo.inv).mono ?_
              rintro e w2b ⟨v2, rfl, ho2, hb2⟩
              have HBb : Hid (TWay w w2b B (.pointer (some ⟨X, 0, none⟩)) s G) := HAb.out.later hb2
              have HCb : Hid (Calls Try.prog 15 #[.slice a1b (2 ^ s.k) c1b, v2] w2b fun e w' => e = .returned (.bool true) ∧ ∃ n, w' = w2b.drewN n) := by
                obtain ⟨b, hb⟩ := HOb.out
                exact samei_any _ (f := slotV s) (fun q hq => slotsC_get s q hq) (own_keep hb (Keep.of_below hb2 []) (fun _ _ => by simp)) ho2 (by have := HAb.out.duo.inv.n64; have := HAb.out.duo.inv.n64; omega)
              obtain ⟨a2b, c2b, rfl⟩ := own_slice ho2
              clear ho2 hb2
              go_wp2_with fail
              refine HCb.out.mono ?_
              rintro e w3b ⟨rfl, nd, hw3⟩
              have HEb : Hid (TWay w w3b B (.pointer (some ⟨X, 0, none⟩)) s G) := by rw [hw3]; exact HBb.out.later (below_drawn (Below.refl _ _) _)
              clear hw3 HCb HOb HAb HBb
              go_wp2
              go_ret
              exact ⟨rfl, HEb.out.bel⟩
end Go.Proofs.Ytpkbjdpoflipmaa
