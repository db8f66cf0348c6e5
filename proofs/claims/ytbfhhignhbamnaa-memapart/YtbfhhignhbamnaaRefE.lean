/- The law's logs: what Log tells is so; the list is its owner's. -/
import Derived.Test.YtbfhhignhbamnaaRefD
namespace Go.Proofs.Ytbfhhignhbamnaa
open Go.ChangeShapes Go.WideShapes Go.ChangeAt Go.RowKit

theorem own_setCell {w : World} {base g n cap s : Nat} {e : TypeId} {xs : List Value} (h : w.ownsRow base e s (.slice (some ⟨g, 0, none⟩) n cap) n xs) (o : Nat) (v : Value) : ∃ xs', (w.setCell ⟨g, o, none⟩ v).ownsRow base e s (.slice (some ⟨g, 0, none⟩) n cap) n xs' := by
  rcases h.2 with ⟨e, _⟩ | ⟨g', cap', cur, e, hb, hg, h1, h2, h3, h4⟩
  · cases e
  · simp at e
    obtain ⟨rfl, rfl⟩ := e
    refine ⟨(cur.setIfInBounds o v).toList.take (n * s), ?_, Or.inr ⟨g, cap, cur.setIfInBounds o v, rfl, hb, heap_set hg o v, h1, h2, by simpa using h3, rfl⟩⟩
    have h5 : n * s ≤ cap * s := Nat.mul_le_mul_right _ h1
    have h6 : (cur.setIfInBounds o v).toList.length = cap * s := by simp [h3]
    rw [List.length_take, h6]
    omega
theorem own_some {w : World} {base g n cap s : Nat} {e : TypeId} {xs : List Value} (h : w.ownsRow base e s (.slice (some ⟨g, 0, none⟩) n cap) n xs) (i : Nat) (hi : i < n * s) : (∃ u, w.cell? ⟨g, i, none⟩ = some u) ∧ w.frozen? ⟨g, i, none⟩ = false := by
  have hl := h.1
  refine ⟨⟨xs[i]'(by omega), own_cells h i _ (by simp [hl, hi])⟩, ?_⟩
  rcases h.2 with ⟨e, _⟩ | ⟨g', cap', cur, e, hb, hg, _⟩
  · cases e
  · simp at e
    obtain ⟨rfl, rfl⟩ := e
    exact frozen_at hg i
/-- Some accesses, whatever they are, in new memory. -/
def Some8 (w : World) (B : Nat) (v : Value) (n : Nat) : Prop := ∃ xs, w.ownsRow B 52 8 v n xs
theorem Some8.set {w : World} {B g n cap : Nat} (h : Some8 w B (.slice (some ⟨g, 0, none⟩) n cap) n) (o : Nat) (v : Value) : Some8 (w.setCell ⟨g, o, none⟩ v) B (.slice (some ⟨g, 0, none⟩) n cap) n := by
  obtain ⟨xs, h⟩ := h
  exact own_setCell h o v

set_option maxRecDepth 100000 in
set_option maxHeartbeats 3200000 in
theorem logs_any {w : World} {base base2 : Nat} {p q : Value} {c r c2 r2 : Nat} {L : List Ac} {F G : List Nat} (hm : MemAt w base p c r L F) (hr : RefAt w base2 q c2 r2 L G) (hL : L.length < 2199023255552) (f : Int) :
    Calls Try.prog 12 #[p, q, .int .i64 f] w fun e w' => e = .returned (.bool true) ∧ Below w.heap.size w w' := by
  obtain ⟨i0, hi, hz0, hz1, hz2⟩ := info_parts info_acc
  have HL1 : Hid (Calls Try.prog 18 #[p, .int .i64 f] w fun e w' => ∃ v, e = .returned v ∧ w'.ownsRow w.heap.size 52 8 v (L.drop f.toNat).length (logC (L.drop f.toNat)) ∧ Below w.heap.size w w') := log_any hm (by omega) f
  have HL2 : Hid (∀ w' : World, Below w.heap.size w w' → Calls Try.prog 24 #[q, .int .i64 f] w' fun e w'' => ∃ v, e = .returned v ∧ w''.ownsRow w'.heap.size 52 8 v (L.drop f.toNat).length (logC (L.drop f.toNat)) ∧ Below w'.heap.size w' w'') := fun w' hb => rlog_any (hr.below hb) (by omega) f
  obtain ⟨M, rfl⟩ := hm.ptr
  obtain ⟨R, rfl⟩ := hr.ptr
  have hl : (L.drop f.toNat).length < 2199023255552 := by rw [List.length_drop]; omega
  clear hm hr
  generalize L.drop f.toNat = K at *
  go_enter Try.func12, Try.ntmps12
  go_wp2_with fail
  refine HL1.out.mono ?_
  rintro e w1 ⟨v1, rfl, ho1, hb1⟩
  obtain ⟨a1, c1, rfl⟩ := own_slice ho1
  have HO1 : Hid (w1.ownsRow w.heap.size 52 8 (.slice a1 K.length c1) K.length (logC K)) := ho1
  have HB1 : Hid (Below w.heap.size w w1) := hb1
  clear ho1 hb1
  go_wp2_with fail
  refine (HL2.out _ HB1.out).mono ?_
  rintro e w2 ⟨v2, rfl, ho2, hb2⟩
  obtain ⟨a2, c2, rfl⟩ := own_slice ho2
  have HO2 : Hid (w2.ownsRow w1.heap.size 52 8 (.slice a2 K.length c2) K.length (logC K)) := ho2
  have HO12 : Hid (w2.ownsRow w.heap.size 52 8 (.slice a1 K.length c1) K.length (logC K)) := own_keep HO1.out (Keep.of_below hb2 []) (fun _ _ => by simp)
  have HB2 : Hid (Below w.heap.size w w2) := below_then HB1.out hb2
  have HAC : Hid (Calls Try.prog 25 #[.slice a1 K.length c1, .slice a2 K.length c2] w2 fun e w' => e = .returned (.bool true) ∧ ∃ n, w' = w2.drewN n) := accesses_same w2 _ _ K (own_llst HO12.out (by omega)) (own_llst ho2 (by omega))
  clear ho2 hb2
  go_wp2_with fail
  refine HAC.out.mono ?_
  rintro e w3 ⟨rfl, nd, rfl⟩
  have HS : Hid (Some8 (w2.drewN nd) w.heap.size (.slice a1 K.length c1) K.length) := ⟨_, own_keep HO12.out ((Keep.refl [] _).drewN nd) (fun _ _ => by simp)⟩
  have HB3 : Hid (Below w.heap.size w (w2.drewN nd)) := below_drawn HB2.out nd
  clear HAC HO12 HO1 HO2 HL1 HL2 HB2
  generalize K.length = n at *
  go_wp2
  go_loopw [10] (fun iv wr => ∃ j : Nat, j ≤ n ∧ iv = .int .i64 j ∧ Some8 wr w.heap.size (.slice a1 n c1) n ∧ Below w.heap.size w wr) (fun iv _ => n - (intOf iv).toNat)
  case atStart => exact ⟨0, Nat.zero_le _, rfl, HS.out, HB3.out⟩
  case round =>
    obtain ⟨j, hj, rfl, hs, hb⟩ := hrel
    have HSR : Hid (Some8 wr w.heap.size (.slice a1 n c1) n) := hs
    have HBR : Hid (Below w.heap.size w wr) := hb
    by_cases hlt : j < n
    · obtain ⟨xs, hx⟩ := hs
      obtain ⟨g, cap, hform, hg1, hg2⟩ := hx.form (by omega)
      obtain ⟨rfl, _, rfl⟩ : a1 = some ⟨g, 0, none⟩ ∧ n = n ∧ c1 = cap := by simpa using hform
      clear hform hb
      have HX : Hid (wr.ownsRow w.heap.size 52 8 (.slice (some ⟨g, 0, none⟩) n c1) n xs) := hx
      obtain ⟨⟨u0, d0⟩, f0⟩ := own_some hx (j * 8) (by omega)
      obtain ⟨⟨u1, d1⟩, f1⟩ := own_some hx (j * 8 + 1) (by omega)
      obtain ⟨⟨u2, d2⟩, f2⟩ := own_some hx (j * 8 + 2) (by omega)
      obtain ⟨⟨u3, d3⟩, f3⟩ := own_some hx (j * 8 + 3) (by omega)
      obtain ⟨⟨u4, d4⟩, f4⟩ := own_some hx (j * 8 + 4) (by omega)
      obtain ⟨⟨u5, d5⟩, f5⟩ := own_some hx (j * 8 + 5) (by omega)
      obtain ⟨⟨u6, d6⟩, f6⟩ := own_some hx (j * 8 + 6) (by omega)
      obtain ⟨⟨u7, d7⟩, f7⟩ := own_some hx (j * 8 + 7) (by omega)
      clear hx
      have hx1 : (j : Int) < (n : Int) := by omega
      have hd : decide ((j : Int) < (n : Int)) = true := by simp; omega
      go_wp2
      go_roundw
      case rel => exact ⟨j + 1, by omega, by go_num, (((((((HSR.out.set _ _).set _ _).set _ _).set _ _).set _ _).set _ _).set _ _).set _ _, (((((((HBR.out.setCell hg1 _).setCell hg1 _).setCell hg1 _).setCell hg1 _).setCell hg1 _).setCell hg1 _).setCell hg1 _).setCell hg1 _⟩
      case measure => simp [intOf]; omega
    · obtain rfl : j = n := by omega
      clear hs hb hlt hj
      obtain ⟨xs, hx⟩ := HSR.out
      have HX : Hid (wr.ownsRow w.heap.size 52 8 (.slice a1 j c1) j xs) := hx
      have hsz := HBR.out.size
      clear hx
      go_wp2_with (at_builtin; refine wpList_append_lies _ rfl _ _ 49 rfl w.heap.size 52 i0 _ 8 64 Try.underlying49 hi hz0 hz1 hz2 rfl (by decide) _ _ _ rfl (HX.out.alloc _) ⟨wr.heap.size, 0, none⟩ 1 1 [.int .i64 0, .int .i64 0, .int .i64 0, .int .i64 0, .int .i64 0, .int .i64 0, .int .i64 0, .bool false] rfl rfl ?c1 ?c2 (by decide) ?c3 ?c4 ?c5 _ rfl ?_)
      case c1 => exact World.news_of_block (cs := #[.int .i64 0, .int .i64 0, .int .i64 0, .int .i64 0, .int .i64 0, .int .i64 0, .int .i64 0, .bool false]) (t := 52) (fr := (0, 0)) (heap_alloc_new wr _)
      case c2 => simp [Value.oneCell']
      case c3 => unfold maxLen; omega
      case c4 => omega
      case c5 => first | omega | (simp; omega)
      intro gg cap' w3 hown1 hgrow hat _
      have HB3 : Hid (Below w.heap.size w w3) := (below_alloc HBR.out _).grown hgrow (by simp; omega) (fun b hb => (own_block HX.out b hb).1)
      clear hown1 hgrow hat
      go_wp2
      go_ret
      exact ⟨by simp, HB3.out⟩
end Go.Proofs.Ytbfhhignhbamnaa
