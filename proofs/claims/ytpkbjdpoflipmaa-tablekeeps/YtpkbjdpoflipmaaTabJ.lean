/- The law's one: a step, done by both. -/
import Derived.Test.YtpkbjdpoflipmaaTabI
namespace Go.Proofs.Ytpkbjdpoflipmaa
open Go.ChangeShapes Go.WideShapes Go.ChangeAt Go.RowKit

/-- The program's table and the document's, alike, apart from one another. -/
structure TDuo (w : World) (base B : Nat) (q : Value) (s : Tb) (G : List Nat) : Prop where
  tab : TabAt w B s
  ref : RTab w base q s G
  inv : Inv s
  apart : B ∉ G
  lo : base ≤ B
  size : base ≤ w.heap.size
theorem TDuo.below {w w' : World} {base B : Nat} {q : Value} {s : Tb} {G : List Nat} (h : TDuo w base B q s G) (hb : Below w.heap.size w w') : TDuo w' base B q s G :=
  ⟨h.tab.below hb, h.ref.below hb, h.inv, h.apart, h.lo, Nat.le_trans h.size hb.size⟩
theorem TDuo.next_below {w w' : World} {base B : Nat} {q : Value} {s : Tb} {G : List Nat} (h : TDuo w base B q s G) (hb : Below w.heap.size w w') : TDuo w' base B q s G ∧ Next (B :: G) (B :: G) w w' :=
  ⟨h.below hb, Next.of_below hb _⟩
/-- The program's table has become another, the document's follows. -/
theorem TDuo.step {w w1 w2 : World} {base B : Nat} {q : Value} {s s' : Tb} {G G' : List Nat} (h : TDuo w base B q s G) (h1 : TabAt w1 B s') (k1 : Keep [B] w w1) (h2 : RTab w2 base q s' G') (k2 : Next G G' w1 w2) (hi : Inv s') : TDuo w2 base B q s' G' ∧ Next (B :: G) (B :: G') w w2 := by
  refine ⟨⟨h1.keep k2.1 h.apart, h2, hi, fun hm => ?_, h.lo, Nat.le_trans h.size (Nat.le_trans k1.size k2.1.size)⟩, ?_, ?_⟩
  · rcases k2.2 B hm with e | e
    · exact h.apart e
    · have := heap_lt h1; omega
  · exact (k1.mono (fun b hb => by simp at hb; simp [hb])).trans k2.1 (fun b hb => Or.inl (by simp [hb]))
  · intro b hb
    simp only [List.mem_cons] at hb ⊢
    rcases hb with rfl | hb
    · exact Or.inl (Or.inl rfl)
    · rcases k2.2 b hb with e | e
      · exact Or.inl (Or.inr e)
      · exact Or.inr (Nat.le_trans k1.size e)
theorem TDuo.ref1 {w w1 : World} {base B : Nat} {q : Value} {s : Tb} {G : List Nat} (h : TDuo w base B q s G) (k1 : Keep [B] w w1) : RTab w1 base q s G := h.ref.keep k1 (fun b hb hm => by simp at hm; subst hm; exact h.apart hb)
def skC (k c v : Int) : Array Value := #[.int .i64 k, .int .i64 c, .int .i64 v]
theorem TDuo.ptr {w : World} {base B : Nat} {q : Value} {s : Tb} {G : List Nat} (h : TDuo w base B q s G) : ∃ X, q = .pointer (some ⟨X, 0, none⟩) := h.ref.ptr
theorem box_at {w w' : World} {o : Array Value} {t : TypeId} {F : List Nat} (k : Keep F (w.alloc (.cells o t)) w') (hF : w.heap.size ∉ F) (j : Nat) : w'.cell? ⟨w.heap.size, j, none⟩ = o[j]? := by
  have h : w'.heap[w.heap.size]? = some (.cells o t (0, 0)) := by
    rw [k.block _ (by simp) hF]; exact heap_alloc_new _ _
  exact cell_at h j

theorem one_put {w : World} {base B : Nat} {q : Value} {s : Tb} {G : List Nat} (h : TDuo w base B q s G) (c v : Int) :
    Calls Try.prog 11 #[.pointer (some ⟨B, 0, none⟩), q, .agg #[.int .i64 0, .int .i64 c, .int .i64 v]] w fun e w' => e = .returned (.bool true) ∧ ∃ s' G', TDuo w' base B q s' G' ∧ Next (B :: G) (B :: G') w w' ∧ s'.m = s.m := by
  have HD : Hid (∀ o, TDuo (w.alloc o) base B q s G ∧ Next (B :: G) (B :: G) w (w.alloc o)) := fun o => h.next_below (below_a1 _ _)
  obtain ⟨X, rfl⟩ := h.ptr
  have hB : B < w.heap.size := heap_lt h.tab
  have HP : Hid (∀ o, Calls Try.prog 18 #[.pointer (some ⟨B, 0, none⟩), .int .i64 c, .int .i64 v] (w.alloc o) fun e w' => e = .returned (.int .i64 (putE s c)) ∧ TabAt w' B (put s c v) ∧ Keep [B] (w.alloc o) w') := fun o => put_any (HD.out o).1.tab h.inv c v
  have HI : Hid (Inv s) := h.inv
  clear h
  go_enter Try.func11, Try.ntmps11
  go_wp2_with fail
  refine (HP.out _).mono ?_
  rintro e w1 ⟨rfl, ht, hk⟩
  have b1 : w1.cell? ⟨w.heap.size, 1, none⟩ = some (.int .i64 c) := box_at hk (by simp; omega) 1
  have b2 : w1.cell? ⟨w.heap.size, 2, none⟩ = some (.int .i64 v) := box_at hk (by simp; omega) 2
  have HR : Hid (Calls Try.prog 23 #[.pointer (some ⟨X, 0, none⟩), .int .i64 c, .int .i64 v] w1 fun e w' => e = .returned (.int .i64 (putE s c)) ∧ ∃ G', RTab w' base (.pointer (some ⟨X, 0, none⟩)) (put s c v) G' ∧ Next G G' w1 w') := rput_any ((HD.out _).1.ref1 hk) HI.out (Nat.le_trans (HD.out _).1.size hk.size) c v
  have HE : Hid (∀ w2 G', RTab w2 base (.pointer (some ⟨X, 0, none⟩)) (put s c v) G' → Next G G' w1 w2 → TDuo w2 base B (.pointer (some ⟨X, 0, none⟩)) (put s c v) G' ∧ Next (B :: G) (B :: G') w w2) := fun w2 G' hr hn => by
    obtain ⟨k1, k2⟩ := (HD.out _).1.step ht hk hr hn (put_inv HI.out c v)
    exact ⟨k1, (HD.out _).2.trans k2⟩
  clear ht hk
  go_wp2_with fail
  refine HR.out.mono ?_
  rintro e w2 ⟨rfl, G', hr, hn⟩
  have HE2 : Hid (TDuo w2 base B (.pointer (some ⟨X, 0, none⟩)) (put s c v) G' ∧ Next (B :: G) (B :: G') w w2) := HE.out _ _ hr hn
  clear hr hn
  go_wp2
  go_ret
  exact ⟨by simp, _, G', HE2.out.1, HE2.out.2, (put_keeps s c v).1⟩
theorem one_get {w : World} {base B : Nat} {q : Value} {s : Tb} {G : List Nat} (h : TDuo w base B q s G) (c v : Int) :
    Calls Try.prog 11 #[.pointer (some ⟨B, 0, none⟩), q, .agg #[.int .i64 1, .int .i64 c, .int .i64 v]] w fun e w' => e = .returned (.bool true) ∧ Below w.heap.size w w' := by
  have HD : Hid (∀ w', Below w.heap.size w w' → TDuo w' base B q s G) := fun w' hb => h.below hb
  obtain ⟨X, rfl⟩ := h.ptr
  have HP : Hid (∀ w', Below w.heap.size w w' → Calls Try.prog 19 #[.pointer (some ⟨B, 0, none⟩), .int .i64 c] w' fun e w'' => e = .returned (.tuple #[.int .i64 (getV s c), .bool (getY s c)]) ∧ ∃ n, w'' = w'.drewN n) := fun w' hb => get_any (HD.out w' hb).tab h.inv c
  have HR : Hid (∀ w', Below w.heap.size w w' → Calls Try.prog 27 #[.pointer (some ⟨X, 0, none⟩), .int .i64 c] w' fun e w'' => e = .returned (.tuple #[.int .i64 (getV s c), .bool (getY s c)]) ∧ Below w'.heap.size w' w'') := fun w' hb => rget_any (HD.out w' hb).ref h.inv c
  clear h
  generalize getV s c = z at *
  generalize getY s c = y at *
  go_enter Try.func11, Try.ntmps11
  go_wp2_with fail
  refine (HP.out _ (below_a1 _ _)).mono ?_
  rintro e w1 ⟨rfl, n, hw1⟩
  have HB1 : Hid (Below w.heap.size w w1) := by rw [hw1]; exact below_drawn (below_a1 _ _) _
  have b1 : w1.cell? ⟨w.heap.size, 1, none⟩ = some (.int .i64 c) := by rw [hw1]; exact box_at ((Keep.refl [] _).drewN _) (by simp) 1
  clear hw1
  go_wp2_with fail
  refine (HR.out _ HB1.out).mono ?_
  rintro e w2 ⟨rfl, hb2⟩
  have HB2 : Hid (Below w.heap.size w w2) := below_then HB1.out hb2
  clear hb2
  go_wp2
  go_ret
  exact ⟨by simp, HB2.out⟩
theorem one_len {w : World} {base B : Nat} {q : Value} {s : Tb} {G : List Nat} (h : TDuo w base B q s G) (c v : Int) :
    Calls Try.prog 11 #[.pointer (some ⟨B, 0, none⟩), q, .agg #[.int .i64 2, .int .i64 c, .int .i64 v]] w fun e w' => e = .returned (.bool true) ∧ Below w.heap.size w w' := by
  have HD : Hid (∀ w', Below w.heap.size w w' → TDuo w' base B q s G) := fun w' hb => h.below hb
  have HP : Hid (∀ w', Below w.heap.size w w' → Calls Try.prog 20 #[.pointer (some ⟨B, 0, none⟩)] w' fun e w'' => e = .returned (.int .i64 (s.R.length : Int)) ∧ w'' = w') := fun w' hb => len_any (HD.out w' hb).tab
  obtain ⟨X, x, u, hr⟩ := h.ref
  obtain rfl := hr.p
  have h1 : w.cell? ⟨X, 1, none⟩ = some x := by rw [cell_at hr.m]; rfl
  have hX : X < w.heap.size := heap_lt hr.m
  obtain ⟨xa, xc, rfl⟩ := own_slice hr.rows
  clear h hr
  generalize s.R.length = n at *
  go_enter Try.func11, Try.ntmps11
  go_wp2_with fail
  refine (HP.out _ (below_a1 _ _)).mono ?_
  rintro e w1 ⟨rfl, rfl⟩
  go_wp2
  go_ret
  exact ⟨by simp, below_a1 _ _⟩
theorem one_list {w : World} {base B : Nat} {q : Value} {s : Tb} {G : List Nat} (h : TDuo w base B q s G) (c v : Int) :
    Calls Try.prog 11 #[.pointer (some ⟨B, 0, none⟩), q, .agg #[.int .i64 3, .int .i64 c, .int .i64 v]] w fun e w' => e = .returned (.bool true) ∧ Below w.heap.size w w' := by
  have HD : Hid (∀ w', Below w.heap.size w w' → TDuo w' base B q s G) := fun w' hb => h.below hb
  obtain ⟨X, rfl⟩ := h.ptr
  have hl : s.R.length ≤ 24 := Nat.le_trans h.inv.len h.inv.m24
  have HP : Hid (∀ w', Below w.heap.size w w' → Calls Try.prog 13 #[.pointer (some ⟨B, 0, none⟩)] w' fun e w'' => ∃ v, e = .returned v ∧ w''.ownsRow w'.heap.size 41 2 v s.R.length (rowsC s.R) ∧ Below w'.heap.size w' w'') := fun w' hb => list_any (HD.out w' hb).tab h.inv
  have HR : Hid (∀ w', Below w.heap.size w w' → Calls Try.prog 14 #[.pointer (some ⟨X, 0, none⟩)] w' fun e w'' => ∃ v, e = .returned v ∧ w''.ownsRow w'.heap.size 41 2 v s.R.length (rowsC s.R) ∧ Below w'.heap.size w' w'') := fun w' hb => rlist_any (HD.out w' hb).ref h.inv
  have HS : Hid (∀ (w : World) b1 b2 v u, w.ownsRow b1 41 2 v s.R.length (rowsC s.R) → w.ownsRow b2 41 2 u s.R.length (rowsC s.R) → Calls Try.prog 12 #[v, u] w fun e w' => e = .returned (.bool true) ∧ ∃ n, w' = w.drewN n) := fun w b1 b2 v u h1 h2 => samew_any w h1 h2 (by omega)
  clear h HD
  generalize rowsC s.R = xs at *
  generalize s.R.length = n at *
  go_enter Try.func11, Try.ntmps11
  go_wp2_with fail
  refine (HP.out _ (below_a1 _ _)).mono ?_
  rintro e w1 ⟨v1, rfl, ho1, hb1⟩
  have HB1 : Hid (Below w.heap.size w w1) := below_then (below_a1 _ _) hb1
  have HO1 : Hid (∃ b, w1.ownsRow b 41 2 v1 n xs) := ⟨_, ho1⟩
  obtain ⟨a1, c1, rfl⟩ := own_slice ho1
  clear ho1 hb1
  go_wp2_with fail
  refine (HR.out _ HB1.out).mono ?_
  rintro e w2 ⟨v2, rfl, ho2, hb2⟩
  have HB2 : Hid (Below w.heap.size w w2) := below_then HB1.out hb2
  have HS2 : Hid (Calls Try.prog 12 #[.slice a1 n c1, v2] w2 fun e w' => e = .returned (.bool true) ∧ ∃ n, w' = w2.drewN n) := by
    obtain ⟨b, hb⟩ := HO1.out
    exact HS.out w2 b _ _ v2 (own_keep hb (Keep.of_below hb2 []) (fun _ _ => by simp)) ho2
  obtain ⟨a2, c2, rfl⟩ := own_slice ho2
  clear ho2 hb2
  go_wp2_with fail
  refine HS2.out.mono ?_
  rintro e w3 ⟨rfl, nd, hw3⟩
  have HB3 : Hid (Below w.heap.size w w3) := by rw [hw3]; exact below_drawn HB2.out _
  clear hw3
  go_wp2
  go_ret
  exact ⟨by simp, HB3.out⟩
theorem one_slots {w : World} {base B : Nat} {q : Value} {s : Tb} {G : List Nat} (h : TDuo w base B q s G) (c v : Int) :
    Calls Try.prog 11 #[.pointer (some ⟨B, 0, none⟩), q, .agg #[.int .i64 4, .int .i64 c, .int .i64 v]] w fun e w' => e = .returned (.bool true) ∧ Below w.heap.size w w' := by
  have HD : Hid (∀ w', Below w.heap.size w w' → TDuo w' base B q s G) := fun w' hb => h.below hb
  obtain ⟨X, rfl⟩ := h.ptr
  have hl := h.inv.n64
  have HP : Hid (∀ w', Below w.heap.size w w' → Calls Try.prog 16 #[.pointer (some ⟨B, 0, none⟩)] w' fun e w'' => ∃ v, e = .returned v ∧ w''.ownsRow w'.heap.size 3 1 v (2 ^ s.k) (slotsC s) ∧ Below w'.heap.size w' w'') := fun w' hb => slots_any (HD.out w' hb).tab h.inv
  have HR : Hid (∀ w', Below w.heap.size w w' → Calls Try.prog 17 #[.pointer (some ⟨X, 0, none⟩)] w' fun e w'' => ∃ v, e = .returned v ∧ w''.ownsRow w'.heap.size 3 1 v (2 ^ s.k) (slotsC s) ∧ Below w'.heap.size w' w'') := fun w' hb => rslots_any (HD.out w' hb).ref h.inv
  have HS : Hid (∀ (w : World) b1 b2 v u, w.ownsRow b1 3 1 v (2 ^ s.k) (slotsC s) → w.ownsRow b2 3 1 u (2 ^ s.k) (slotsC s) → Calls Try.prog 15 #[v, u] w fun e w' => e = .returned (.bool true) ∧ ∃ n, w' = w.drewN n) := fun w b1 b2 v u h1 h2 => samei_any w (f := slotV s) (fun q hq => slotsC_get s q hq) h1 h2 (by omega)
  clear h HD
  generalize slotsC s = xs at *
  generalize 2 ^ s.k = n at *
  go_enter Try.func11, Try.ntmps11
  go_wp2_with fail
  refine (HP.out _ (below_a1 _ _)).mono ?_
  rintro e w1 ⟨v1, rfl, ho1, hb1⟩
  have HB1 : Hid (Below w.heap.size w w1) := below_then (below_a1 _ _) hb1
  have HO1 : Hid (∃ b, w1.ownsRow b 3 1 v1 n xs) := ⟨_, ho1⟩
  obtain ⟨a1, c1, rfl⟩ := own_slice ho1
  clear ho1 hb1
  go_wp2_with fail
  refine (HR.out _ HB1.out).mono ?_
  rintro e w2 ⟨v2, rfl, ho2, hb2⟩
  have HB2 : Hid (Below w.heap.size w w2) := below_then HB1.out hb2
  have HS2 : Hid (Calls Try.prog 15 #[.slice a1 n c1, v2] w2 fun e w' => e = .returned (.bool true) ∧ ∃ n, w' = w2.drewN n) := by
    obtain ⟨b, hb⟩ := HO1.out
    exact HS.out w2 b _ _ v2 (own_keep hb (Keep.of_below hb2 []) (fun _ _ => by simp)) ho2
  obtain ⟨a2, c2, rfl⟩ := own_slice ho2
  clear ho2 hb2
  go_wp2_with fail
  refine HS2.out.mono ?_
  rintro e w3 ⟨rfl, nd, hw3⟩
  have HB3 : Hid (Below w.heap.size w w3) := by rw [hw3]; exact below_drawn HB2.out _
  clear hw3
  go_wp2
  go_ret
  exact ⟨by simp, HB3.out⟩
theorem one_clear {w : World} {base B : Nat} {q : Value} {s : Tb} {G : List Nat} (h : TDuo w base B q s G) (k c v : Int) (hk : k ≠ 0 ∧ k ≠ 1 ∧ k ≠ 2 ∧ k ≠ 3 ∧ k ≠ 4) :
    Calls Try.prog 11 #[.pointer (some ⟨B, 0, none⟩), q, .agg #[.int .i64 k, .int .i64 c, .int .i64 v]] w fun e w' => e = .returned (.bool true) ∧ ∃ s' G', TDuo w' base B q s' G' ∧ Next (B :: G) (B :: G') w w' ∧ s'.m = s.m := by
  have HD : Hid (∀ o, TDuo (w.alloc o) base B q s G ∧ Next (B :: G) (B :: G) w (w.alloc o)) := fun o => h.next_below (below_a1 _ _)
  obtain ⟨X, rfl⟩ := h.ptr
  have HP : Hid (∀ o, Calls Try.prog 24 #[.pointer (some ⟨B, 0, none⟩)] (w.alloc o) fun e w' => e = .returned (.tuple #[]) ∧ TabAt w' B (empty s.m) ∧ Keep [B] (w.alloc o) w') := fun o => clear_any (HD.out o).1.tab h.inv
  have HI : Hid (Inv s) := h.inv
  have n0 : (k == 0) = false := by simp; omega
  have n1 : (k == 1) = false := by simp; omega
  have n2 : (k == 2) = false := by simp; omega
  have n3 : (k == 3) = false := by simp; omega
  have n4 : (k == 4) = false := by simp; omega
  clear h hk
  go_enter Try.func11, Try.ntmps11
  go_wp2_with fail
  refine (HP.out _).mono ?_
  rintro e w1 ⟨rfl, ht, hk⟩
  have HR : Hid (Calls Try.prog 26 #[.pointer (some ⟨X, 0, none⟩)] w1 fun e w' => e = .returned (.tuple #[]) ∧ ∃ G', RTab w' base (.pointer (some ⟨X, 0, none⟩)) (empty s.m) G' ∧ Next G G' w1 w') := rclear_any ((HD.out _).1.ref1 hk) HI.out (Nat.le_trans (HD.out _).1.size hk.size)
  have HE : Hid (∀ w2 G', RTab w2 base (.pointer (some ⟨X, 0, none⟩)) (empty s.m) G' → Next G G' w1 w2 → TDuo w2 base B (.pointer (some ⟨X, 0, none⟩)) (empty s.m) G' ∧ Next (B :: G) (B :: G') w w2) := fun w2 G' hr hn => by
    obtain ⟨k1, k2⟩ := (HD.out _).1.step ht hk hr hn (empty_inv HI.out.m1 HI.out.m24)
    exact ⟨k1, (HD.out _).2.trans k2⟩
  clear ht hk
  go_wp2_with fail
  refine HR.out.mono ?_
  rintro e w2 ⟨rfl, G', hr, hn⟩
  have HE2 : Hid (TDuo w2 base B (.pointer (some ⟨X, 0, none⟩)) (empty s.m) G' ∧ Next (B :: G) (B :: G') w w2) := HE.out _ _ hr hn
  clear hr hn
  go_wp2
  go_ret
  exact ⟨rfl, _, G', HE2.out.1, HE2.out.2, rfl⟩
theorem one_any {w : World} {base B : Nat} {q : Value} {s : Tb} {G : List Nat} (h : TDuo w base B q s G) (k c v : Int) :
    Calls Try.prog 11 #[.pointer (some ⟨B, 0, none⟩), q, .agg #[.int .i64 k, .int .i64 c, .int .i64 v]] w fun e w' => e = .returned (.bool true) ∧ ∃ s' G', TDuo w' base B q s' G' ∧ Next (B :: G) (B :: G') w w' ∧ s'.m = s.m := by
  have same : ∀ {k : Int}, (Calls Try.prog 11 #[.pointer (some ⟨B, 0, none⟩), q, .agg #[.int .i64 k, .int .i64 c, .int .i64 v]] w fun e w' => e = .returned (.bool true) ∧ Below w.heap.size w w') → Calls Try.prog 11 #[.pointer (some ⟨B, 0, none⟩), q, .agg #[.int .i64 k, .int .i64 c, .int .i64 v]] w fun e w' => e = .returned (.bool true) ∧ ∃ s' G', TDuo w' base B q s' G' ∧ Next (B :: G) (B :: G') w w' ∧ s'.m = s.m := fun hc => hc.mono (by
    rintro e w' ⟨rfl, hb⟩
    exact ⟨rfl, s, G, h.below hb, Next.of_below hb _, rfl⟩)
  by_cases k0 : k = 0
  · subst k0; exact one_put h c v
  by_cases k1 : k = 1
  · subst k1; exact same (one_get h c v)
  by_cases k2 : k = 2
  · subst k2; exact same (one_len h c v)
  by_cases k3 : k = 3
  · subst k3; exact same (one_list h c v)
  by_cases k4 : k = 4
  · subst k4; exact same (one_slots h c v)
  exact one_clear h k c v ⟨k0, k1, k2, k3, k4⟩
end Go.Proofs.Ytpkbjdpoflipmaa
