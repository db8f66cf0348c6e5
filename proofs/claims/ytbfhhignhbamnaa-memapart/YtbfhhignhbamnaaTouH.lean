/- The law's touched: what Touched tells is so; the list is its owner's. -/
import Derived.Test.YtbfhhignhbamnaaTouG
namespace Go.Proofs.Ytbfhhignhbamnaa
open Go.ChangeShapes Go.WideShapes Go.ChangeAt Go.RowKit

theorem nodup_len : ∀ {l m : List Ad}, l.Nodup → (∀ a ∈ l, a ∈ m) → l.length ≤ m.length
  | [], m, _, _ => by simp
  | a :: l, m, h, hs => by
    have hn := List.nodup_cons.1 h
    have ha : a ∈ m := hs a (by simp)
    have h1 := nodup_len (l := l) (m := m.erase a) hn.2 (fun b hb => by
      have hbm := hs b (by simp [hb])
      have hne : b ≠ a := fun e => hn.1 (e ▸ hb)
      exact (List.mem_erase_of_ne hne).2 hbm)
    rw [List.length_erase_of_mem ha] at h1
    have := List.length_pos_of_mem ha
    simp only [List.length_cons]
    omega
theorem tells_len {L : List Ac} {T : List To} (h : Tells L T) : T.length ≤ L.length := by
  have h1 : (T.map (·.a)).length ≤ (L.map (·.a)).length := nodup_len h.nodup (fun a ha => by
    obtain ⟨t, ht, rfl⟩ := List.mem_map.1 ha
    obtain ⟨x, hx, e⟩ := (h.mem t.a).1 ⟨t, ht, rfl⟩
    exact List.mem_map.2 ⟨x, hx, e⟩)
  simpa using h1

/-- Six cells from a place on. -/
def Row6 (w : World) (y : Addr) (t : To) : Prop := w.cell? y = some (.int .i64 t.a.k) ∧ w.cell? ⟨y.block, y.off + 1, none⟩ = some (.int .i64 t.a.i) ∧ w.cell? ⟨y.block, y.off + 2, none⟩ = some (.int .i64 t.a.j) ∧ w.cell? ⟨y.block, y.off + 3, none⟩ = some (.int .i64 t.l) ∧ w.cell? ⟨y.block, y.off + 4, none⟩ = some (.int .i64 t.s) ∧ w.cell? ⟨y.block, y.off + 5, none⟩ = some (.int .i64 t.w)
/-- A list of touches lies behind a slice. -/
def TLst (w : World) (v : Value) (T : List To) : Prop := ∃ a cap, v = .slice a T.length cap ∧ T.length ≤ 2199023255552 ∧ (T = [] ∨ ∃ x, a = some x ∧ ∀ i, (h : i < T.length) → Row6 w (x.add (i * 6)) T[i])
theorem own_tlst {w : World} {base : Nat} {v : Value} {T : List To} (h : w.ownsRow base 73 6 v T.length (touC T)) (hT : T.length ≤ 2199023255552) : TLst w v T := by
  by_cases h0 : T = []
  · obtain ⟨a, cap, rfl⟩ := own_slice h
    exact ⟨a, cap, rfl, hT, Or.inl h0⟩
  · obtain ⟨g, cap, rfl, _, _⟩ := h.form (List.length_pos_iff.2 h0)
    refine ⟨_, _, rfl, hT, Or.inr ⟨_, rfl, fun i hi => ?_⟩⟩
    rw [add_zero_off]
    exact own_row6 h i hi

theorem touches_same (w : World) (v u : Value) (T : List To) (hv : TLst w v T) (hu : TLst w u T) :
    Calls Try.prog 28 #[v, u] w fun e w' => e = .returned (.bool true) ∧ ∃ n, w' = w.drewN n := by
  obtain ⟨a, ca, rfl, hbig, hl⟩ := hv
  obtain ⟨b, cb, rfl, hbig2, hm⟩ := hu
  clear hbig2
  have HX : Hid (∀ i, (h : i < T.length) → ∃ x y, a = some x ∧ b = some y ∧ Row6 w (x.add (i * 6)) T[i] ∧ Row6 w (y.add (i * 6)) T[i]) := fun i hi => by
    rcases hl with rfl | ⟨x, hx, hcx⟩
    · simp at hi
    · rcases hm with rfl | ⟨y, hy, hcy⟩
      · simp at hi
      · exact ⟨x, y, hx, hy, hcx i hi, hcy i hi⟩
  clear hl hm
  obtain ⟨n, hn⟩ : ∃ n, T.length = n := ⟨_, rfl⟩
  have HLN : Hid (T.length = n) := hn
  rw [hn] at hbig ⊢
  clear hn
  have hne : ((n : Int) != (n : Int)) = false := by simp
  go_enter Try.func28, Try.ntmps28
  go_wp2
  go_loopw [5] (fun i wr => ∃ j : Nat, j ≤ n ∧ i = .int .i64 j ∧ ∃ q, wr = w.drewN q) (fun i _ => n - (intOf i).toNat)
  case atStart => exact ⟨0, Nat.zero_le _, rfl, 0, rfl⟩
  case round =>
    obtain ⟨j, hj, rfl, hwr⟩ := hrel
    have HW : Hid (∃ q, wr = w.drewN q) := hwr
    clear hwr
    by_cases hlt : j < n
    · have hjL : j < T.length := by rw [HLN.out]; exact hlt
      obtain ⟨x, y, rfl, rfl, hrx, hry⟩ := HX.out j hjL
      have hrx' : Row6 wr (x.add (j * 6)) T[j] := by obtain ⟨q, rfl⟩ := HW.out; exact hrx
      have hry' : Row6 wr (y.add (j * 6)) T[j] := by obtain ⟨q, rfl⟩ := HW.out; exact hry
      clear hrx hry
      have hx1 : (j : Int) < (n : Int) := by omega
      have hd : decide ((j : Int) < (n : Int)) = true := by simp; omega
      generalize T[j] = z at *
      obtain ⟨⟨ya, yb, yc⟩, zl, zs, zw⟩ := z
      obtain ⟨d0, d1, d2, d3, d4, d5⟩ := hrx'
      obtain ⟨e0, e1, e2, e3, e4, e5⟩ := hry'
      simp only at d0 d1 d2 d3 d4 d5 e0 e1 e2 e3 e4 e5
      go_wp2
      go_quiet (fail)
      go_wp2
      go_roundw
      case rel => exact ⟨j + 1, by omega, by go_num, by obtain ⟨q, rfl⟩ := HW.out; exact ⟨_, World.drewN_drewN _ _ _⟩⟩
      case measure => simp [intOf]; omega
    · obtain rfl : j = n := by omega
      go_wp2
      go_ret
      exact ⟨rfl, HW.out⟩

def Some6 (w : World) (B : Nat) (v : Value) (n : Nat) : Prop := ∃ xs, w.ownsRow B 73 6 v n xs
theorem Some6.set {w : World} {B g n cap : Nat} (h : Some6 w B (.slice (some ⟨g, 0, none⟩) n cap) n) (o : Nat) (v : Value) : Some6 (w.setCell ⟨g, o, none⟩ v) B (.slice (some ⟨g, 0, none⟩) n cap) n := by
  obtain ⟨xs, h⟩ := h
  exact own_setCell h o v

set_option maxRecDepth 100000 in
set_option maxHeartbeats 3200000 in
theorem ltouched_any {w : World} {base base2 : Nat} {p q : Value} {c r c2 r2 : Nat} {L : List Ac} {F G : List Nat} (hm : MemAt w base p c r L F) (hr : RefAt w base2 q c2 r2 L G) (hL : L.length < 2199023255552) (hG : Good c r L) (hc : c < 1000000) (hr' : r < 1000000) (hG2 : Good c2 r2 L) :
    Calls Try.prog 13 #[p, q] w fun e w' => e = .returned (.bool true) ∧ Below w.heap.size w w' := by
  obtain ⟨i1, hj0, hy0, hy1, hy2⟩ := info_parts info_touch
  have HL1 : Hid (Calls Try.prog 26 #[p] w fun e w' => ∃ v T, e = .returned v ∧ Tells L T ∧ Rising T ∧ w'.ownsRow w.heap.size 73 6 v T.length (touC T) ∧ Below w.heap.size w w') := touched_loop hm hL hG hc hr'
  have HL2 : Hid (∀ w' : World, Below w.heap.size w w' → Calls Try.prog 27 #[q] w' fun e w'' => ∃ v T, e = .returned v ∧ Tells L T ∧ Rising T ∧ w''.ownsRow w'.heap.size 73 6 v T.length (touC T) ∧ Below w'.heap.size w' w'') := fun w' hb => rtouched_any (hr.below hb) hL hG2
  obtain ⟨M, rfl⟩ := hm.ptr
  obtain ⟨R, rfl⟩ := hr.ptr
  clear hm hr
  go_enter Try.func13, Try.ntmps13
  go_wp2_with fail
  refine HL1.out.mono ?_
  rintro e w1 ⟨v1, T, rfl, ht1, hs1, ho1, hb1⟩
  obtain ⟨a1, c1, rfl⟩ := own_slice ho1
  have HO1 : Hid (w1.ownsRow w.heap.size 73 6 (.slice a1 T.length c1) T.length (touC T)) := ho1
  have HB1 : Hid (Below w.heap.size w w1) := hb1
  have HT1 : Hid (Tells L T ∧ Rising T) := ⟨ht1, hs1⟩
  clear ho1 hb1 ht1 hs1
  go_wp2_with fail
  refine (HL2.out _ HB1.out).mono ?_
  rintro e w2 ⟨v2, T2, rfl, ht2, hs2, ho2, hb2⟩
  obtain rfl : T2 = T := tells_eq ht2 HT1.out.1 hs2 HT1.out.2
  obtain ⟨a2, c2, rfl⟩ := own_slice ho2
  have HO12 : Hid (w2.ownsRow w.heap.size 73 6 (.slice a1 T2.length c1) T2.length (touC T2)) := own_keep HO1.out (Keep.of_below hb2 []) (fun _ _ => by simp)
  have HB2 : Hid (Below w.heap.size w w2) := below_then HB1.out hb2
  have hTl : T2.length ≤ L.length := tells_len ht2
  have HAC : Hid (Calls Try.prog 28 #[.slice a1 T2.length c1, .slice a2 T2.length c2] w2 fun e w' => e = .returned (.bool true) ∧ ∃ n, w' = w2.drewN n) := touches_same w2 _ _ T2 (own_tlst HO12.out (by omega)) (own_tlst ho2 (by omega))
  clear ho2 hb2 ht2 hs2
  go_wp2_with fail
  refine HAC.out.mono ?_
  rintro e w3 ⟨rfl, nd, rfl⟩
  have HS : Hid (Some6 (w2.drewN nd) w.heap.size (.slice a1 T2.length c1) T2.length) := ⟨_, own_keep HO12.out ((Keep.refl [] _).drewN nd) (fun _ _ => by simp)⟩
  have HB3 : Hid (Below w.heap.size w (w2.drewN nd)) := below_drawn HB2.out nd
  have hnl : T2.length < 2199023255552 := by omega
  clear HAC HO12 HO1 HL1 HL2 HB2 HT1 hTl
  generalize T2.length = n at *
  go_wp2
  go_loopw [8] (fun iv wr => ∃ j : Nat, j ≤ n ∧ iv = .int .i64 j ∧ Some6 wr w.heap.size (.slice a1 n c1) n ∧ Below w.heap.size w wr) (fun iv _ => n - (intOf iv).toNat)
  case atStart => exact ⟨0, Nat.zero_le _, rfl, HS.out, HB3.out⟩
  case round =>
    obtain ⟨j, hj, rfl, hs, hb⟩ := hrel
    have HSR : Hid (Some6 wr w.heap.size (.slice a1 n c1) n) := hs
    have HBR : Hid (Below w.heap.size w wr) := hb
    by_cases hlt : j < n
    · obtain ⟨xs, hx⟩ := hs
      obtain ⟨g, cap, hform, hg1, hg2⟩ := hx.form (by omega)
      obtain ⟨rfl, _, rfl⟩ : a1 = some ⟨g, 0, none⟩ ∧ n = n ∧ c1 = cap := by simpa using hform
      clear hform hb
      obtain ⟨⟨u0, d0⟩, f0⟩ := own_some hx (j * 6) (by omega)
      obtain ⟨⟨u1, d1⟩, f1⟩ := own_some hx (j * 6 + 1) (by omega)
      obtain ⟨⟨u2, d2⟩, f2⟩ := own_some hx (j * 6 + 2) (by omega)
      obtain ⟨⟨u3, d3⟩, f3⟩ := own_some hx (j * 6 + 3) (by omega)
      obtain ⟨⟨u4, d4⟩, f4⟩ := own_some hx (j * 6 + 4) (by omega)
      obtain ⟨⟨u5, d5⟩, f5⟩ := own_some hx (j * 6 + 5) (by omega)
      clear hx
      have hx1 : (j : Int) < (n : Int) := by omega
      have hd : decide ((j : Int) < (n : Int)) = true := by simp; omega
      go_wp2
      go_roundw
      case rel => exact ⟨j + 1, by omega, by go_num, (((((HSR.out.set _ _).set _ _).set _ _).set _ _).set _ _).set _ _, (((((HBR.out.setCell hg1 _).setCell hg1 _).setCell hg1 _).setCell hg1 _).setCell hg1 _).setCell hg1 _⟩
      case measure => simp [intOf]; omega
    · obtain rfl : j = n := by omega
      clear hs hb hlt hj
      obtain ⟨xs, hx⟩ := HSR.out
      have HX : Hid (wr.ownsRow w.heap.size 73 6 (.slice a1 j c1) j xs) := hx
      have hsz := HBR.out.size
      clear hx
      go_wp2_with (at_builtin; refine wpList_append_lies _ rfl _ _ 69 rfl w.heap.size 73 i1 _ 6 48 Try.underlying69 hj0 hy0 hy1 hy2 rfl (by decide) _ _ _ rfl (HX.out.alloc _) ⟨wr.heap.size, 0, none⟩ 1 1 [.int .i64 0, .int .i64 0, .int .i64 0, .int .i64 0, .int .i64 0, .int .i64 0] rfl rfl ?c1 ?c2 (by decide) ?c3 ?c4 ?c5 _ rfl ?_)
      try (case c1 => exact World.news_of_block (cs := #[.int .i64 0, .int .i64 0, .int .i64 0, .int .i64 0, .int .i64 0, .int .i64 0]) (t := 73) (fr := (0, 0)) (heap_alloc_new wr _))
      try (case c2 => simp [Value.oneCell'])
      case c3 => unfold maxLen; omega
      case c4 => omega
      try (case c5 => first | omega | (simp; omega))
      intro gg cap' w3 hown1 hgrow hat _
      have HB4 : Hid (Below w.heap.size w w3) := (below_alloc HBR.out _).grown hgrow (by simp; omega) (fun b hb => (own_block HX.out b hb).1)
      clear hown1 hgrow hat
      go_wp2
      go_ret
      exact ⟨by simp, HB4.out⟩
end Go.Proofs.Ytbfhhignhbamnaa
