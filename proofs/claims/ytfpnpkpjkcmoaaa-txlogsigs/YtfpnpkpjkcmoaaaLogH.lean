/- The law's one and all: a step, done by both logs; what they say in the end. -/
import Derived.Test.YtfpnpkpjkcmoaaaLogB
import Derived.Test.YtfpnpkpjkcmoaaaLogG
import Derived.Test.YtfpnpkpjkcmoaaaTabJ
import Derived.Test.YtfpnpkpjkcmoaaaSigE
namespace Go.Proofs.Ytfpnpkpjkcmoaaa
open Go.ChangeShapes Go.WideShapes Go.ChangeAt Go.RowKit

/-- The program's log and the document's, alike, apart from one another. -/
structure LDuo (w : World) (base L B : Nat) (q : Value) (s : Tb) (T : List Int) (G : List Nat) : Prop where
  log : LogAt w L B s (Sg.ofAll T)
  ref : RLog w base q s T G
  told : Told T
  aL : L ∉ G
  aB : B ∉ G
  lL : base ≤ L
  lB : base ≤ B
  size : base ≤ w.heap.size
theorem LDuo.inv {w : World} {base L B : Nat} {q : Value} {s : Tb} {T : List Int} {G : List Nat} (h : LDuo w base L B q s T G) : Inv s := h.log.inv
theorem LDuo.below {w w' : World} {base L B : Nat} {q : Value} {s : Tb} {T : List Int} {G : List Nat} (h : LDuo w base L B q s T G) (hb : Below w.heap.size w w') : LDuo w' base L B q s T G :=
  ⟨h.log.below hb, h.ref.below hb, h.told, h.aL, h.aB, h.lL, h.lB, Nat.le_trans h.size hb.size⟩
theorem LDuo.next_below {w w' : World} {base L B : Nat} {q : Value} {s : Tb} {T : List Int} {G : List Nat} (h : LDuo w base L B q s T G) (hb : Below w.heap.size w w') : LDuo w' base L B q s T G ∧ Next (L :: B :: G) (L :: B :: G) w w' :=
  ⟨h.below hb, Next.of_below hb _⟩
/-- The program's log has become another, the document's follows. -/
theorem LDuo.step {w w1 w2 : World} {base L B : Nat} {q : Value} {s s' : Tb} {T T' : List Int} {G G' : List Nat} (h : LDuo w base L B q s T G) (h1 : LogAt w1 L B s' (Sg.ofAll T')) (k1 : Keep [L, B] w w1) (h2 : RLog w2 base q s' T' G') (k2 : Next G G' w1 w2) (ht : Told T') : LDuo w2 base L B q s' T' G' ∧ Next (L :: B :: G) (L :: B :: G') w w2 := by
  have hout : ∀ b, b < w1.heap.size → b ∉ G → b ∉ G' := fun b hb hn hm => by
    rcases k2.2 b hm with e | e
    · exact hn e
    · omega
  refine ⟨⟨h1.keep k2.1 h.aL h.aB, h2, ht, hout _ (heap_lt h1.log) h.aL, hout _ (heap_lt h1.tab) h.aB, h.lL, h.lB, Nat.le_trans h.size (Nat.le_trans k1.size k2.1.size)⟩, ?_, ?_⟩
  · exact (k1.mono (fun b hb => by simp at hb ⊢; rcases hb with rfl | rfl <;> simp)).trans k2.1 (fun b hb => Or.inl (by simp [hb]))
  · intro b hb
    simp only [List.mem_cons] at hb ⊢
    rcases hb with rfl | rfl | hb
    · exact Or.inl (Or.inl rfl)
    · exact Or.inl (Or.inr (Or.inl rfl))
    · rcases k2.2 b hb with e | e
      · exact Or.inl (Or.inr (Or.inr e))
      · exact Or.inr (Nat.le_trans k1.size e)
theorem LDuo.ref1 {w w1 : World} {base L B : Nat} {q : Value} {s : Tb} {T : List Int} {G : List Nat} (h : LDuo w base L B q s T G) (k1 : Keep [L, B] w w1) : RLog w1 base q s T G := h.ref.keep k1 (fun b hb hm => by
  simp at hm
  rcases hm with rfl | rfl
  · exact h.aL hb
  · exact h.aB hb)
theorem LDuo.ptr {w : World} {base L B : Nat} {q : Value} {s : Tb} {T : List Int} {G : List Nat} (h : LDuo w base L B q s T G) : ∃ Y, q = .pointer (some ⟨Y, 0, none⟩) := h.ref.ptr

theorem lone_write {w : World} {base L B : Nat} {q : Value} {s : Tb} {T : List Int} {G : List Nat} (h : LDuo w base L B q s T G) (c v : Int) :
    Calls Try.prog 11 #[.pointer (some ⟨L, 0, none⟩), q, .agg #[.int .i64 0, .int .i64 c, .int .i64 v]] w fun e w' => e = .returned (.bool true) ∧ ∃ s' T' G', LDuo w' base L B q s' T' G' ∧ Next (L :: B :: G) (L :: B :: G') w w' ∧ s'.m = s.m := by
  have HD : Hid (∀ o, LDuo (w.alloc o) base L B q s T G ∧ Next (L :: B :: G) (L :: B :: G) w (w.alloc o)) := fun o => h.next_below (below_a1 _ _)
  obtain ⟨Y, rfl⟩ := h.ptr
  have hL : L < w.heap.size := heap_lt h.log.log
  have hB : B < w.heap.size := heap_lt h.log.tab
  have HP : Hid (∀ o, Calls Try.prog 13 #[.pointer (some ⟨L, 0, none⟩), .int .i64 c, .int .i64 v] (w.alloc o) fun e w' => e = .returned (.int .i64 (writeE s c)) ∧ LogAt w' L B (put s c v) (Sg.ofAll T) ∧ Keep [B] (w.alloc o) w') := fun o => write_any (HD.out o).1.log c v
  have HI : Hid (Inv s ∧ Told T) := ⟨h.inv, h.told⟩
  clear h
  go_enter Try.func11, Try.ntmps11
  go_wp2_with fail
  refine (HP.out _).mono ?_
  rintro e w1 ⟨rfl, ht, hk0⟩
  have hk := hk0.mono (G := [L, B]) (by simp)
  have b1 : w1.cell? ⟨w.heap.size, 1, none⟩ = some (.int .i64 c) := box_at hk0 (by simp; omega) 1
  have b2 : w1.cell? ⟨w.heap.size, 2, none⟩ = some (.int .i64 v) := box_at hk0 (by simp; omega) 2
  have HR : Hid (Calls Try.prog 23 #[.pointer (some ⟨Y, 0, none⟩), .int .i64 c, .int .i64 v] w1 fun e w' => e = .returned (.int .i64 (writeE s c)) ∧ ∃ G', RLog w' base (.pointer (some ⟨Y, 0, none⟩)) (put s c v) T G' ∧ Next G G' w1 w') := rlwrite_any ((HD.out _).1.ref1 hk) HI.out.1 (Nat.le_trans (HD.out _).1.size hk.size) c v
  have HE : Hid (∀ w2 G', RLog w2 base (.pointer (some ⟨Y, 0, none⟩)) (put s c v) (T) G' → Next G G' w1 w2 → LDuo w2 base L B (.pointer (some ⟨Y, 0, none⟩)) (put s c v) (T) G' ∧ Next (L :: B :: G) (L :: B :: G') w w2) := fun w2 G' hr hn => by
    obtain ⟨k1, k2⟩ := (HD.out _).1.step ht hk hr hn HI.out.2
    exact ⟨k1, (HD.out _).2.trans k2⟩
  clear ht hk hk0
  go_wp2_with fail
  refine HR.out.mono ?_
  rintro e w2 ⟨rfl, G', hr, hn⟩
  have HE2 : Hid (LDuo w2 base L B (.pointer (some ⟨Y, 0, none⟩)) (put s c v) (T) G' ∧ Next (L :: B :: G) (L :: B :: G') w w2) := HE.out _ _ hr hn
  clear hr hn
  go_wp2
  go_ret
  exact ⟨by simp, _, _, G', HE2.out.1, HE2.out.2, (put_keeps s c v).1⟩
theorem lone_read {w : World} {base L B : Nat} {q : Value} {s : Tb} {T : List Int} {G : List Nat} (h : LDuo w base L B q s T G) (c v : Int) :
    Calls Try.prog 11 #[.pointer (some ⟨L, 0, none⟩), q, .agg #[.int .i64 2, .int .i64 c, .int .i64 v]] w fun e w' => e = .returned (.bool true) ∧ ∃ s' T' G', LDuo w' base L B q s' T' G' ∧ Next (L :: B :: G) (L :: B :: G') w w' ∧ s'.m = s.m := by
  have HD : Hid (∀ o, LDuo (w.alloc o) base L B q s T G ∧ Next (L :: B :: G) (L :: B :: G) w (w.alloc o)) := fun o => h.next_below (below_a1 _ _)
  obtain ⟨Y, rfl⟩ := h.ptr
  have hL : L < w.heap.size := heap_lt h.log.log
  have hB : B < w.heap.size := heap_lt h.log.tab
  have HP : Hid (∀ o, Calls Try.prog 14 #[.pointer (some ⟨L, 0, none⟩), .int .i64 c] (w.alloc o) fun e w' => e = .returned (.tuple #[]) ∧ LogAt w' L B s (Sg.ofAll (told T c)) ∧ Keep [L] (w.alloc o) w') := fun o => by rw [ofAll_told]; exact read_any (HD.out o).1.log c
  have HI : Hid (Inv s ∧ Told T) := ⟨h.inv, h.told⟩
  clear h
  go_enter Try.func11, Try.ntmps11
  go_wp2_with fail
  refine (HP.out _).mono ?_
  rintro e w1 ⟨rfl, ht, hk0⟩
  have hk := hk0.mono (G := [L, B]) (by simp)
  have b1 : w1.cell? ⟨w.heap.size, 1, none⟩ = some (.int .i64 c) := box_at hk0 (by simp; omega) 1
  have HR : Hid (Calls Try.prog 25 #[.pointer (some ⟨Y, 0, none⟩), .int .i64 c] w1 fun e w' => e = .returned (.tuple #[]) ∧ ∃ G', RLog w' base (.pointer (some ⟨Y, 0, none⟩)) s (told T c) G' ∧ Next G G' w1 w') := rlread_any ((HD.out _).1.ref1 hk) HI.out.2 (Nat.le_trans (HD.out _).1.size hk.size) c
  have HE : Hid (∀ w2 G', RLog w2 base (.pointer (some ⟨Y, 0, none⟩)) (s) (told T c) G' → Next G G' w1 w2 → LDuo w2 base L B (.pointer (some ⟨Y, 0, none⟩)) (s) (told T c) G' ∧ Next (L :: B :: G) (L :: B :: G') w w2) := fun w2 G' hr hn => by
    obtain ⟨k1, k2⟩ := (HD.out _).1.step ht hk hr hn (told_ok HI.out.2 c)
    exact ⟨k1, (HD.out _).2.trans k2⟩
  clear ht hk hk0
  go_wp2_with fail
  refine HR.out.mono ?_
  rintro e w2 ⟨rfl, G', hr, hn⟩
  have HE2 : Hid (LDuo w2 base L B (.pointer (some ⟨Y, 0, none⟩)) (s) (told T c) G' ∧ Next (L :: B :: G) (L :: B :: G') w w2) := HE.out _ _ hr hn
  clear hr hn
  go_wp2
  go_ret
  exact ⟨rfl, _, _, G', HE2.out.1, HE2.out.2, rfl⟩
theorem lone_clear {w : World} {base L B : Nat} {q : Value} {s : Tb} {T : List Int} {G : List Nat} (h : LDuo w base L B q s T G) (k c v : Int) (hk : k ≠ 0 ∧ k ≠ 1 ∧ k ≠ 2 ∧ k ≠ 3 ∧ k ≠ 4) :
    Calls Try.prog 11 #[.pointer (some ⟨L, 0, none⟩), q, .agg #[.int .i64 k, .int .i64 c, .int .i64 v]] w fun e w' => e = .returned (.bool true) ∧ ∃ s' T' G', LDuo w' base L B q s' T' G' ∧ Next (L :: B :: G) (L :: B :: G') w w' ∧ s'.m = s.m := by
  have HD : Hid (∀ o, LDuo (w.alloc o) base L B q s T G ∧ Next (L :: B :: G) (L :: B :: G) w (w.alloc o)) := fun o => h.next_below (below_a1 _ _)
  obtain ⟨Y, rfl⟩ := h.ptr
  have HP : Hid (∀ o, Calls Try.prog 20 #[.pointer (some ⟨L, 0, none⟩)] (w.alloc o) fun e w' => e = .returned (.tuple #[]) ∧ LogAt w' L B (empty s.m) (Sg.ofAll []) ∧ Keep [L, B] (w.alloc o) w') := fun o => lclear_any (HD.out o).1.log
  have HI : Hid (Inv s ∧ Told T) := ⟨h.inv, h.told⟩
  have n0 : (k == 0) = false := by simp; omega
  have n1 : (k == 1) = false := by simp; omega
  have n2 : (k == 2) = false := by simp; omega
  have n3 : (k == 3) = false := by simp; omega
  have n4 : (k == 4) = false := by simp; omega
  clear h hk
  go_enter Try.func11, Try.ntmps11
  go_wp2_with fail
  refine (HP.out _).mono ?_
  rintro e w1 ⟨rfl, ht, hk⟩
  have hk0 := hk
  have HR : Hid (Calls Try.prog 30 #[.pointer (some ⟨Y, 0, none⟩)] w1 fun e w' => e = .returned (.tuple #[]) ∧ ∃ G', RLog w' base (.pointer (some ⟨Y, 0, none⟩)) (empty s.m) [] G' ∧ Next G G' w1 w') := rlclear_any ((HD.out _).1.ref1 hk) HI.out.1 (Nat.le_trans (HD.out _).1.size hk.size)
  have HE : Hid (∀ w2 G', RLog w2 base (.pointer (some ⟨Y, 0, none⟩)) (empty s.m) ([]) G' → Next G G' w1 w2 → LDuo w2 base L B (.pointer (some ⟨Y, 0, none⟩)) (empty s.m) ([]) G' ∧ Next (L :: B :: G) (L :: B :: G') w w2) := fun w2 G' hr hn => by
    obtain ⟨k1, k2⟩ := (HD.out _).1.step ht hk hr hn Told.nil
    exact ⟨k1, (HD.out _).2.trans k2⟩
  clear ht hk hk0
  go_wp2_with fail
  refine HR.out.mono ?_
  rintro e w2 ⟨rfl, G', hr, hn⟩
  have HE2 : Hid (LDuo w2 base L B (.pointer (some ⟨Y, 0, none⟩)) (empty s.m) ([]) G' ∧ Next (L :: B :: G) (L :: B :: G') w w2) := HE.out _ _ hr hn
  clear hr hn
  go_wp2
  go_ret
  exact ⟨rfl, _, _, G', HE2.out.1, HE2.out.2, rfl⟩
theorem lone_own {w : World} {base L B : Nat} {q : Value} {s : Tb} {T : List Int} {G : List Nat} (h : LDuo w base L B q s T G) (c v : Int) :
    Calls Try.prog 11 #[.pointer (some ⟨L, 0, none⟩), q, .agg #[.int .i64 1, .int .i64 c, .int .i64 v]] w fun e w' => e = .returned (.bool true) ∧ Below w.heap.size w w' := by
  have HD : Hid (∀ w', Below w.heap.size w w' → LDuo w' base L B q s T G) := fun w' hb => h.below hb
  obtain ⟨Y, rfl⟩ := h.ptr
  have HP : Hid (∀ w', Below w.heap.size w w' → Calls Try.prog 19 #[.pointer (some ⟨L, 0, none⟩), .int .i64 c] w' fun e w'' => e = .returned (.tuple #[.int .i64 (getV s c), .bool (getY s c)]) ∧ Below w'.heap.size w' w'') := fun w' hb => own_any (HD.out w' hb).log c
  have HR : Hid (∀ w', Below w.heap.size w w' → Calls Try.prog 24 #[.pointer (some ⟨Y, 0, none⟩), .int .i64 c] w' fun e w'' => e = .returned (.tuple #[.int .i64 (getV s c), .bool (getY s c)]) ∧ Below w'.heap.size w' w'') := fun w' hb => rlown_any (HD.out w' hb).ref h.inv c
  clear h
  generalize getV s c = z at *
  generalize getY s c = y at *
  go_enter Try.func11, Try.ntmps11
  go_wp2_with fail
  refine (HP.out _ (below_a1 _ _)).mono ?_
  rintro e w1 ⟨rfl, hb1⟩
  have HB1 : Hid (Below w.heap.size w w1) := below_then (below_a1 _ _) hb1
  have b1 : w1.cell? ⟨w.heap.size, 1, none⟩ = some (.int .i64 c) := box_at (Keep.of_below hb1 []) (by simp) 1
  clear hb1
  go_wp2_with fail
  refine (HR.out _ HB1.out).mono ?_
  rintro e w2 ⟨rfl, hb2⟩
  have HB2 : Hid (Below w.heap.size w w2) := below_then HB1.out hb2
  clear hb2
  go_wp2
  go_ret
  exact ⟨by simp, HB2.out⟩
theorem lone_writes {w : World} {base L B : Nat} {q : Value} {s : Tb} {T : List Int} {G : List Nat} (h : LDuo w base L B q s T G) (c v : Int) :
    Calls Try.prog 11 #[.pointer (some ⟨L, 0, none⟩), q, .agg #[.int .i64 4, .int .i64 c, .int .i64 v]] w fun e w' => e = .returned (.bool true) ∧ Below w.heap.size w w' := by
  have HD : Hid (∀ w', Below w.heap.size w w' → LDuo w' base L B q s T G) := fun w' hb => h.below hb
  obtain ⟨Y, rfl⟩ := h.ptr
  have hl : s.R.length ≤ 24 := Nat.le_trans h.inv.len h.inv.m24
  have HP : Hid (∀ w', Below w.heap.size w w' → Calls Try.prog 15 #[.pointer (some ⟨L, 0, none⟩)] w' fun e w'' => ∃ v, e = .returned v ∧ w''.ownsRow w'.heap.size 39 2 v s.R.length (rowsC s.R) ∧ Below w'.heap.size w' w'') := fun w' hb => writes_any (HD.out w' hb).log
  have HR : Hid (∀ w', Below w.heap.size w w' → Calls Try.prog 29 #[.pointer (some ⟨Y, 0, none⟩)] w' fun e w'' => ∃ v, e = .returned v ∧ w''.ownsRow w'.heap.size 39 2 v s.R.length (rowsC s.R) ∧ Below w'.heap.size w' w'') := fun w' hb => rlwrites_any (HD.out w' hb).ref h.inv
  have HS : Hid (∀ (w : World) b1 b2 v u, w.ownsRow b1 39 2 v s.R.length (rowsC s.R) → w.ownsRow b2 39 2 u s.R.length (rowsC s.R) → Calls Try.prog 28 #[v, u] w fun e w' => e = .returned (.bool true) ∧ ∃ n, w' = w.drewN n) := fun w b1 b2 v u h1 h2 => samew_any w h1 h2 (by omega)
  clear h HD
  generalize rowsC s.R = xs at *
  generalize s.R.length = n at *
  go_enter Try.func11, Try.ntmps11
  go_wp2_with fail
  refine (HP.out _ (below_a1 _ _)).mono ?_
  rintro e w1 ⟨v1, rfl, ho1, hb1⟩
  have HB1 : Hid (Below w.heap.size w w1) := below_then (below_a1 _ _) hb1
  have HO1 : Hid (∃ b, w1.ownsRow b 39 2 v1 n xs) := ⟨_, ho1⟩
  obtain ⟨a1, c1, rfl⟩ := own_slice ho1
  clear ho1 hb1
  go_wp2_with fail
  refine (HR.out _ HB1.out).mono ?_
  rintro e w2 ⟨v2, rfl, ho2, hb2⟩
  have HB2 : Hid (Below w.heap.size w w2) := below_then HB1.out hb2
  have HS2 : Hid (Calls Try.prog 28 #[.slice a1 n c1, v2] w2 fun e w' => e = .returned (.bool true) ∧ ∃ n, w' = w2.drewN n) := by
    obtain ⟨b, hb⟩ := HO1.out
    exact HS.out w2 b _ _ v2 (own_keep hb (Keep.of_below hb2 []) (fun _ _ => by simp)) ho2
  obtain ⟨a2, c2, rfl⟩ := own_slice ho2
  clear ho2 hb2
  go_wp2_with fail
  refine HS2.out.mono ?_
  rintro e w3 ⟨rfl, nd, hw3⟩
  have HB3 : Hid (Below w.heap.size w w3) := by rw [hw3]; exact below_drawn HB2.out _
  clear hw3
  go_wp2
  go_ret
  exact ⟨by simp, HB3.out⟩
set_option maxRecDepth 10000 in
theorem lone_sigs {w : World} {base L B : Nat} {q : Value} {s : Tb} {T : List Int} {G : List Nat} (h : LDuo w base L B q s T G) (c v : Int) :
    Calls Try.prog 11 #[.pointer (some ⟨L, 0, none⟩), q, .agg #[.int .i64 3, .int .i64 c, .int .i64 v]] w fun e w' => e = .returned (.bool true) ∧ Below w.heap.size w w' := by
  have HD : Hid (∀ w', Below w.heap.size w w' → LDuo w' base L B q s T G) := fun w' hb => h.below hb
  obtain ⟨Y, rfl⟩ := h.ptr
  have HA : Hid (∀ w', Below w.heap.size w w' → Calls Try.prog 18 #[.pointer (some ⟨L, 0, none⟩)] w' fun e w'' => e = .returned (.agg (Sg.sc (Sg.ofAll T))) ∧ Below w'.heap.size w' w'') := fun w' hb => reads_any (HD.out w' hb).log
  have HB : Hid (∀ w', Below w.heap.size w w' → Calls Try.prog 16 #[.pointer (some ⟨L, 0, none⟩)] w' fun e w'' => e = .returned (.agg (Sg.sc (wrS s))) ∧ Below w'.heap.size w' w'') := fun w' hb => sig_any (HD.out w' hb).log
  have HC : Hid (∀ w', Below w.heap.size w w' → Calls Try.prog 26 #[.pointer (some ⟨Y, 0, none⟩)] w' fun e w'' => e = .returned (.agg (Sg.sc (Sg.ofAll T))) ∧ Below w'.heap.size w' w'') := fun w' hb => rlreads_any (HD.out w' hb).ref h.told
  have HE : Hid (∀ w', Below w.heap.size w w' → Calls Try.prog 27 #[.pointer (some ⟨Y, 0, none⟩)] w' fun e w'' => e = .returned (.agg (Sg.sc (wrS s))) ∧ Below w'.heap.size w' w'') := fun w' hb => rlsig_any (HD.out w' hb).ref h.inv
  have hz1 : (Sg.sc (Sg.ofAll T)).size = 8 := by rw [Sg.sc_size]; exact (Sg.ok_ofAll T).1
  have hz2 : (Sg.sc (wrS s)).size = 8 := by rw [Sg.sc_size]; exact (wrS_ok s).1
  have o1 := Sg.sc_one (Sg.ofAll T)
  have o2 := Sg.sc_one (wrS s)
  have q1 : ∀ w : World, (binOp .eql 44 (.agg (Sg.sc (Sg.ofAll T))) (.agg (Sg.sc (Sg.ofAll T)))).run Try.prog w = .ok (.bool true) w := fun w => by rw [Sg.eql_sig _ _ (Sg.ok_ofAll T).1 (Sg.ok_ofAll T).1 w]; simp
  have q2 : ∀ w : World, (binOp .eql 44 (.agg (Sg.sc (wrS s))) (.agg (Sg.sc (wrS s)))).run Try.prog w = .ok (.bool true) w := fun w => by rw [Sg.eql_sig _ _ (wrS_ok s).1 (wrS_ok s).1 w]; simp
  clear h HD
  generalize Sg.sc (Sg.ofAll T) = ra at *
  generalize Sg.sc (wrS s) = rb at *
  have p1 := Sg.pack8 ra hz1
  have p2 := Sg.pack8 rb hz2
  have s1 := fun (w : World) (old : Array Value) (ho : old.size = 8) => Sg.store_1_0 (P := Try.prog) w 44 old ra ho hz1 o1
  have s2 := fun (w : World) (old : Array Value) (ho : old.size = 8) => Sg.store_1_0 (P := Try.prog) w 44 old rb ho hz2 o2
  go_enter Try.func11, Try.ntmps11
  go_wp2_with fail
  refine (HA.out _ (below_a1 _ _)).mono ?_
  rintro e w1 ⟨rfl, hb1⟩
  have HB1 : Hid (Below w.heap.size w (w1.alloc (.cells ra 44))) := below_alloc (below_then (below_a1 _ _) hb1) _
  have R1 : Hid ((w1.alloc (.cells ra 44)).heap[w1.heap.size]? = some (.cells ra 44 (0, 0))) := heap_alloc_new _ _
  clear hb1
  go_wp2_with fail
  refine (HB.out _ HB1.out).mono ?_
  rintro e w2 ⟨rfl, hb2⟩
  have HB2 : Hid (Below w.heap.size w (w2.alloc (.cells rb 44))) := below_alloc (below_then HB1.out hb2) _
  have R12 : Hid ((w2.alloc (.cells rb 44)).heap[w1.heap.size]? = some (.cells ra 44 (0, 0))) := Sg.row_later (Sg.row_later R1.out hb2) (below_a1 _ _)
  have R22 : Hid ((w2.alloc (.cells rb 44)).heap[w2.heap.size]? = some (.cells rb 44 (0, 0))) := heap_alloc_new _ _
  clear hb2
  go_wp2_with fail
  refine (HC.out _ HB2.out).mono ?_
  rintro e w3 ⟨rfl, hb3⟩
  have HB3 : Hid (Below w.heap.size w (w3.alloc (.cells ra 44))) := below_alloc (below_then HB2.out hb3) _
  have R13 : Hid ((w3.alloc (.cells ra 44)).heap[w1.heap.size]? = some (.cells ra 44 (0, 0))) := Sg.row_later (Sg.row_later R12.out hb3) (below_a1 _ _)
  have R23 : Hid ((w3.alloc (.cells ra 44)).heap[w2.heap.size]? = some (.cells rb 44 (0, 0))) := Sg.row_later (Sg.row_later R22.out hb3) (below_a1 _ _)
  have R33 : Hid ((w3.alloc (.cells ra 44)).heap[w3.heap.size]? = some (.cells ra 44 (0, 0))) := heap_alloc_new _ _
  clear hb3
  go_wp2_with fail
  refine (HE.out _ HB3.out).mono ?_
  rintro e w4 ⟨rfl, hb4⟩
  have HB4 : Hid (Below w.heap.size w (w4.alloc (.cells rb 44))) := below_alloc (below_then HB3.out hb4) _
  have R14 : Hid ((w4.alloc (.cells rb 44)).heap[w1.heap.size]? = some (.cells ra 44 (0, 0))) := Sg.row_later (Sg.row_later R13.out hb4) (below_a1 _ _)
  have R24 : Hid ((w4.alloc (.cells rb 44)).heap[w2.heap.size]? = some (.cells rb 44 (0, 0))) := Sg.row_later (Sg.row_later R23.out hb4) (below_a1 _ _)
  have R34 : Hid ((w4.alloc (.cells rb 44)).heap[w3.heap.size]? = some (.cells ra 44 (0, 0))) := Sg.row_later (Sg.row_later R33.out hb4) (below_a1 _ _)
  have R44 : Hid ((w4.alloc (.cells rb 44)).heap[w4.heap.size]? = some (.cells rb 44 (0, 0))) := heap_alloc_new _ _
  clear hb4
  have l1 := Sg.row_cells R14.out hz1
  have l2 := Sg.row_cells R24.out hz2
  have l3 := Sg.row_cells R34.out hz1
  have l4 := Sg.row_cells R44.out hz2
  go_wp2
  go_ret
  exact ⟨by rfl, HB4.out⟩
theorem lone_any {w : World} {base L B : Nat} {q : Value} {s : Tb} {T : List Int} {G : List Nat} (h : LDuo w base L B q s T G) (k c v : Int) :
    Calls Try.prog 11 #[.pointer (some ⟨L, 0, none⟩), q, .agg #[.int .i64 k, .int .i64 c, .int .i64 v]] w fun e w' => e = .returned (.bool true) ∧ ∃ s' T' G', LDuo w' base L B q s' T' G' ∧ Next (L :: B :: G) (L :: B :: G') w w' ∧ s'.m = s.m := by
  have same : ∀ {k : Int}, (Calls Try.prog 11 #[.pointer (some ⟨L, 0, none⟩), q, .agg #[.int .i64 k, .int .i64 c, .int .i64 v]] w fun e w' => e = .returned (.bool true) ∧ Below w.heap.size w w') → Calls Try.prog 11 #[.pointer (some ⟨L, 0, none⟩), q, .agg #[.int .i64 k, .int .i64 c, .int .i64 v]] w fun e w' => e = .returned (.bool true) ∧ ∃ s' T' G', LDuo w' base L B q s' T' G' ∧ Next (L :: B :: G) (L :: B :: G') w w' ∧ s'.m = s.m := fun hc => hc.mono (by
    rintro e w' ⟨rfl, hb⟩
    exact ⟨rfl, s, T, G, h.below hb, Next.of_below hb _, rfl⟩)
  by_cases k0 : k = 0
  · subst k0; exact lone_write h c v
  by_cases k1 : k = 1
  · subst k1; exact same (lone_own h c v)
  by_cases k2 : k = 2
  · subst k2; exact lone_read h c v
  by_cases k3 : k = 3
  · subst k3; exact same (lone_sigs h c v)
  by_cases k4 : k = 4
  · subst k4; exact same (lone_writes h c v)
  exact lone_clear h k c v ⟨k0, k1, k2, k3, k4⟩
theorem all_any {w : World} {base L B : Nat} {q : Value} {s : Tb} {T : List Int} {G : List Nat} (h : LDuo w base L B q s T G) :
    Calls Try.prog 12 #[.pointer (some ⟨L, 0, none⟩), q] w fun e w' => e = .returned (.bool true) ∧ Below w.heap.size w w' := by
  have H3 : Hid (∀ w', Below w.heap.size w w' → Calls Try.prog 11 #[.pointer (some ⟨L, 0, none⟩), q, .agg #[.int .i64 3, .int .i64 0, .int .i64 0]] w' fun e w'' => e = .returned (.bool true) ∧ Below w'.heap.size w' w'') := fun w' hb => lone_sigs (h.below hb) 0 0
  have H4 : Hid (∀ w', Below w.heap.size w w' → Calls Try.prog 11 #[.pointer (some ⟨L, 0, none⟩), q, .agg #[.int .i64 4, .int .i64 0, .int .i64 0]] w' fun e w'' => e = .returned (.bool true) ∧ Below w'.heap.size w' w'') := fun w' hb => lone_writes (h.below hb) 0 0
  obtain ⟨Y, rfl⟩ := h.ptr
  clear h
  go_enter Try.func12, Try.ntmps12
  go_wp2_with fail
  refine (H3.out _ (Below.refl _ _)).mono ?_
  rintro e w1 ⟨rfl, hb1⟩
  have HB1 : Hid (Below w.heap.size w w1) := hb1
  clear hb1
  go_wp2_with fail
  refine (H4.out _ HB1.out).mono ?_
  rintro e w2 ⟨rfl, hb2⟩
  have HB2 : Hid (Below w.heap.size w w2) := below_then HB1.out hb2
  clear hb2
  go_wp2
  go_ret
  exact ⟨rfl, HB2.out⟩
end Go.Proofs.Ytfpnpkpjkcmoaaa
