/- What ProgNil calls: a memory that may be or not, a job over it. -/
import Derived.Test.YthnegagpmkblfaaGreatDoorJPjAPjN
import Derived.Test.YthnegagpmkblfaaGreatDoorJPcEPgF
import Derived.Test.YthnegagpmkblfaaGreatDoorJMemCAns
namespace Go.Proofs.YthnegagpmkblfaaGreatDoor.Pj
open Go.ChangeShapes Go.WideShapes Go.ChangeAt Go.RowKit
open Tl (Wn wn0 nth numC Nl)
attribute [local go_sem ↓] Go.wp_at_zero Go.wp_at_succ

/-- An answer against that of no step. -/
theorem eq_an (k e v : Int) (g : Bool) (w : World) (d : Nat) (h : g = false → k = 0 ∧ e = 0 ∧ v = 0) : (Op.equalIn (d + 2) 48 (.agg #[.int .i64 k, .int .i64 e, .int .i64 v, .bool g]) (.agg #[.int .i64 0, .int .i64 0, .int .i64 0, .bool false])).run Tryz.prog w = .ok (!g) w := by
  rw [run_equalIn_struct w (d + 1) 48 _ _ (by kernel_rfl) (by kernel_rfl)]
  have hf : (Tryz.prog.fieldsOf 48).toList.map (fun f => (f.name, f.type, f.offset)) = [("Kind", 3, 0), ("Err", 24, 1), ("Value", 2, 2), ("Access", 4, 3)] := by kernel_rfl
  generalize (Tryz.prog.fieldsOf 48).toList = fs at *
  have hl : fs.length = 4 := by have := congrArg List.length hf; simpa using this
  obtain ⟨f0, f1, f2, f3, rfl⟩ := Tl.wn_len4 hl
  simp only [List.map_cons, List.map_nil, List.cons.injEq, Prod.mk.injEq, and_true] at hf
  obtain ⟨⟨n0, t0, o0⟩, ⟨n1, t1, o1⟩, ⟨n2, t2, o2⟩, n3, t3, o3⟩ := hf
  have p0 : ∀ (a b c : Int) (s : Bool), (part 3 #[.int .i64 a, .int .i64 b, .int .i64 c, .bool s] 0).run Tryz.prog w = .ok (.int .i64 a) w := fun a b c s => run_part_plain w (by kernel_rfl) rfl
  have p1 : ∀ (a b c : Int) (s : Bool), (part 24 #[.int .i64 a, .int .i64 b, .int .i64 c, .bool s] 1).run Tryz.prog w = .ok (.int .i64 b) w := fun a b c s => run_part_plain w (by kernel_rfl) rfl
  have p2 : ∀ (a b c : Int) (s : Bool), (part 2 #[.int .i64 a, .int .i64 b, .int .i64 c, .bool s] 2).run Tryz.prog w = .ok (.int .i64 c) w := fun a b c s => run_part_plain w (by kernel_rfl) rfl
  have p3 : ∀ (a b c : Int) (s : Bool), (part 4 #[.int .i64 a, .int .i64 b, .int .i64 c, .bool s] 3).run Tryz.prog w = .ok (.bool s) w := fun a b c s => run_part_plain w (by kernel_rfl) rfl
  have q1 := fun v u : Int => run_equalIn_int (P := Tryz.prog) w d 3 .i64 .i64 v u Tryz.underlying3
  have q2 := fun v u : Int => run_equalIn_int (P := Tryz.prog) w d 24 .i64 .i64 v u Tryz.underlying24
  have q3 := fun v u : Int => run_equalIn_int (P := Tryz.prog) w d 2 .i64 .i64 v u Tryz.underlying2
  have q4 := fun v u : Bool => run_equalIn_bool (P := Tryz.prog) w d 4 v u Tryz.underlying4
  cases g
  · obtain ⟨rfl, rfl, rfl⟩ := h rfl
    simp [Op.eqFields, n0, n1, n2, n3, t0, t1, t2, t3, o0, o1, o2, o3, p0, p1, p2, p3, q1, q2, q3, q4]
  · clear h
    by_cases h1 : k = 0 <;> by_cases h2 : e = 0 <;> by_cases h3 : v = 0 <;> simp [Op.eqFields, n0, n1, n2, n3, t0, t1, t2, t3, o0, o1, o2, o3, p0, p1, p2, p3, q1, q2, q3, q4, h1, h2, h3]
theorem eql_an (k e v : Int) (g : Bool) (w : World) (h : g = false → k = 0 ∧ e = 0 ∧ v = 0) : (binOp .eql 48 (.agg #[.int .i64 k, .int .i64 e, .int .i64 v, .bool g]) (.agg #[.int .i64 0, .int .i64 0, .int .i64 0, .bool false])).run Tryz.prog w = .ok (.bool (!g)) w := by
  rw [run_eql_struct, eq_an k e v g w 9998 h]
  rfl
theorem neq_an0 (w : World) : (binOp .neq 48 (.agg #[.int .i64 0, .int .i64 0, .int .i64 0, .bool false]) (.agg #[.int .i64 0, .int .i64 0, .int .i64 0, .bool false])).run Tryz.prog w = .ok (.bool false) w := by
  rw [run_neq_struct, eq_an 0 0 0 false w 9998 (fun _ => ⟨rfl, rfl, rfl⟩)]
  rfl
/-- A memory that was asked for: there is one, or none. -/
def Mm (w : World) (base : Nat) (q : Option Addr) (cs ri : Int) (F : List Nat) : Prop := (q = none ∧ takes cs ri = false ∧ F = []) ∨ ∃ c r : Nat, cs = (c : Int) ∧ ri = (r : Int) ∧ c ≤ 1024 ∧ takes cs ri = true ∧ MemAt w base (.pointer q) c r [] F
theorem Mm.below {w w' : World} {base : Nat} {q : Option Addr} {cs ri : Int} {F : List Nat} (h : Mm w base q cs ri F) (k : Below w.heap.size w w') : Mm w' base q cs ri F :=
  h.imp id (fun ⟨c, r, h1, h2, h3, h4, h5⟩ => ⟨c, r, h1, h2, h3, h4, h5.below k⟩)
theorem Mm.lt {w : World} {base : Nat} {q : Option Addr} {cs ri : Int} {F : List Nat} (h : Mm w base q cs ri F) : ∀ b ∈ F, base ≤ b ∧ b < w.heap.size := by
  rcases h with ⟨_, _, rfl⟩ | ⟨c, r, _, _, _, _, h⟩
  · simp
  · exact h.lt
theorem mnew_any (w : World) (cs ri : Int) : Calls Tryz.prog 12 #[.int .i64 cs, .int .i64 ri] w fun e w' => ∃ q er F, e = .returned (.tuple #[.pointer q, .int .i64 er]) ∧ Mm w' w.heap.size q cs ri F ∧ Below w.heap.size w w' := by
  by_cases h : 1 ≤ cs ∧ cs ≤ 1024 ∧ 1 ≤ ri ∧ ri ≤ 16
  · obtain ⟨c, rfl⟩ : ∃ k : Nat, cs = k := ⟨cs.toNat, by omega⟩
    obtain ⟨r, rfl⟩ : ∃ k : Nat, ri = k := ⟨ri.toNat, by omega⟩
    refine (new_yes w c r (by omega) (by omega)).mono ?_
    rintro e w' ⟨p, F, rfl, hp, hm, hb⟩
    obtain ⟨M, rfl⟩ := hm.ptr
    exact ⟨_, 0, F, rfl, Or.inr ⟨c, r, rfl, rfl, by omega, by simp [takes]; omega, hm⟩, hb⟩
  · refine (new_no w cs ri h).mono ?_
    rintro e w' ⟨rfl, rfl⟩
    refine ⟨none, 1, [], rfl, Or.inl ⟨rfl, ?_, rfl⟩, Below.refl _ _⟩
    cases ht : takes cs ri
    · rfl
    · simp [takes] at ht; omega
/-- A job that may be, over a greater ground. -/
theorem pnew_on {w : World} {base : Nat} (hbase : base ≤ w.heap.size) {v : Value} {c : Tl.Pc.Cf} (h : Tl.Pc.CfV w v c) (code : ByteArray) {va : Value} {l : List Int} (ha : Nl w va l) (hn : Tl.Pc.okC c = true) (hc : code.size ≤ 512) (hl : l.length ≤ 4) :
    Calls Tryz.prog 19 #[v, .string code, va] w fun e w' => ∃ X y, e = .returned (.tuple #[.pointer (some ⟨X, 0, none⟩), .int .i64 0]) ∧ JAt' w' base X (newJ c code l) y ∧ (∀ q ∈ fl y X, w.heap.size ≤ q) ∧ Below w.heap.size w w' := by
  refine (Tl.Pg.new_yes (T := fun X w' => ∃ y, JAt' w' base X (newJ c code l) y ∧ (∀ q ∈ fl y X, w.heap.size ≤ q) ∧ Below w.heap.size w w') h code ha hn hc hl ?_).mono ?_
  · intro w1 X rv av hX hrv hav hd1 hd2 hx hsz hb
    refine (newTry_raw (base := base) (Nat.le_trans hbase hb.size) hx hn (by omega)).mono ?_
    rintro e w2 ⟨T, G, rfl, hr, hT, hG, hk⟩
    have hrl : ∀ q ∈ bl rv, q < X := fun q hq => (hd1 q (by simpa using hq)).1
    have hal : ∀ q ∈ bl av, q < X := fun q hq => hd2 q (by simpa using hq)
    have hrb : ∀ q ∈ bl rv, w.heap.size ≤ q := fun q hq => (own_lt hrv q hq).1
    have hab : ∀ q ∈ bl av, w.heap.size ≤ q := fun q hq => (own_lt hav q hq).1
    refine ⟨rfl, ⟨T, rv, av, .slice none 0 0, .slice none 0 0, .slice none 0 0, .slice none 0 0, .nilIface, [], G⟩, ⟨hr, own_kp (own_base hrv hbase) hk (fun q hq => ?_), own_kp (own_base hav hbase) hk (fun q hq => ?_), World.ownsRow_nil _ _ _ _, World.ownsRow_nil _ _ _ _, World.ownsRow_nil _ _ _ _, World.ownsRow_nil _ _ _ _, ⟨rfl, rfl⟩, hT, ?_, Nat.le_trans hbase hX⟩, ?_, hb.trans (hk.below hb.size (by simpa using hX))⟩
    · have := hrl q hq; simp; omega
    · have := hal q hq; simp; omega
    · have g1 : ∀ q ∈ G, X < q := fun q hq => by have := hG q hq; omega
      have g2 : ∀ q ∈ bl rv, q ∉ bl av := fun q hq hq2 => (hd1 q (by simpa using hq)).2 (by simpa using hq2)
      have e0 : bl (.slice none 0 0) = [] := rfl
      simp only [Jv.segs, e0]
      clear hrb hab
      generalize bl rv = A at *
      generalize bl av = B at *
      have hXA : X ∉ A := fun h => by have := hrl X h; omega
      have hXB : X ∉ B := fun h => by have := hal X h; omega
      have hXG : X ∉ G := fun h => by have := g1 X h; omega
      have hAG : ∀ q ∈ A, q ∉ G := fun q h1 h2 => by have := hrl q h1; have := g1 q h2; omega
      have hBG : ∀ q ∈ B, q ∉ G := fun q h1 h2 => by have := hal q h1; have := g1 q h2; omega
      clear hrl hal g1 hr hT hG hk hrv hav hd1 hd2 hx
      simp [Dj, hXA, hXB, hXG]
      exact ⟨⟨g2, hAG⟩, hBG⟩
    · intro q hq
      obtain ⟨s, hs, hqs⟩ := mem_fl.1 hq
      simp only [Jv.segs, List.mem_cons, List.not_mem_nil, or_false] at hs
      rcases hs with rfl | rfl | rfl | rfl | rfl | rfl | rfl | rfl | rfl
      · simp at hqs; omega
      · exact hrb q hqs
      · exact hab q hqs
      · simp [Value.ownBlock] at hqs
      · simp [Value.ownBlock] at hqs
      · simp [Value.ownBlock] at hqs
      · simp [Value.ownBlock] at hqs
      · simp at hqs
      · have := hG q hqs; have := hb.size; omega
  · rintro e w' ⟨X, rfl, y, h1, h2, h3⟩
    exact ⟨X, y, rfl, h1, h2, h3⟩
/-- What New answers. -/
theorem new_all {w : World} {base : Nat} (hbase : base ≤ w.heap.size) {v : Value} {c : Tl.Pc.Cf} (h : Tl.Pc.CfV w v c) (code : ByteArray) :
    Calls Tryz.prog 19 #[v, .string code, .slice none 0 0] w fun e w' => ∃ px, e = .returned (.tuple #[.pointer px, .int .i64 (Tl.Pg.refV c code [])]) ∧ Below w.heap.size w w' ∧ (Tl.Pg.refV c code [] = 0 → Tl.Pc.okC c = true ∧ ∃ X y, px = some ⟨X, 0, none⟩ ∧ JAt' w' base X (newJ c code []) y ∧ ∀ q ∈ fl y X, w.heap.size ≤ q) := by
  unfold Tl.Pg.refV
  by_cases hc : Tl.Pc.okC c = true
  · rw [if_pos hc]
    by_cases hz : 512 < code.size ∨ 4 < ([] : List Int).length
    · rw [if_pos hz]
      refine (Tl.Pg.new_arg h code Nl.nil hc hz).mono ?_
      rintro e w' ⟨rfl, hb⟩
      exact ⟨none, rfl, hb, by simp⟩
    · rw [if_neg hz]
      refine (pnew_on hbase h code Nl.nil hc (by omega) (by simp)).mono ?_
      rintro e w' ⟨X, y, rfl, h1, h2, h3⟩
      exact ⟨_, rfl, h3, fun _ => ⟨hc, X, y, rfl, h1, h2⟩⟩
  · rw [if_neg hc]
    refine (Tl.Pg.new_cfg h code Nl.nil (by simpa using hc)).mono ?_
    rintro e w' ⟨rfl, hb⟩
    exact ⟨none, rfl, hb, by simp⟩
def rightV (cf : Tl.Pc.Cf) (cs ri : Int) : Bool := takes cs ri && (decide (ri = cf.ring) && decide ((Tl.Pc.cellsV cf).1 ≤ cs))
theorem step_no {w : World} {base X : Nat} {j : Jb} {y : Jv} (h : JAt' w base X j y) (t : Int) : Calls Tryz.prog 13 #[.pointer (some ⟨X, 0, none⟩), .pointer none, .int .i64 t] w fun e w' => e = .returned (.agg #[.int .i64 0, .int .i64 0, .int .i64 0, .bool false]) ∧ Below w.heap.size w w' := by
  refine (step_off h (.pointer none) t (fun w' _ => (goes_nil w' X).mono ?_)).mono ?_
  · rintro e w'' ⟨rfl, rfl⟩
    exact ⟨rfl, Below.refl _ _⟩
  · rintro e w' ⟨rfl, hb⟩
    exact ⟨rfl, hb⟩
theorem right_cases (cf : Tl.Pc.Cf) (cs ri : Int) : (takes cs ri = false ∧ rightV cf cs ri = false) ∨ (takes cs ri = true ∧ decide (ri = cf.ring) = false ∧ rightV cf cs ri = false) ∨ (takes cs ri = true ∧ decide (ri = cf.ring) = true ∧ decide ((Tl.Pc.cellsV cf).1 ≤ cs) = false ∧ rightV cf cs ri = false) ∨ (takes cs ri = true ∧ decide (ri = cf.ring) = true ∧ decide ((Tl.Pc.cellsV cf).1 ≤ cs) = true ∧ rightV cf cs ri = true) := by
  unfold rightV
  cases takes cs ri <;> cases decide (ri = cf.ring) <;> cases decide ((Tl.Pc.cellsV cf).1 ≤ cs) <;> simp
/-- A new job's step over such a memory. -/
theorem step_m {w : World} {base X : Nat} {q : Option Addr} {cs ri : Int} {F : List Nat} {cf : Tl.Pc.Cf} {code : ByteArray} {l : List Int} {y : Jv} (hm : Mm w base q cs ri F) (hj : JAt' w base X (newJ cf code l) y) (ho : ∀ b ∈ fl y X, b ∉ F) (hb : base ≤ w.heap.size) (hok : Tl.Pc.okC cf = true) (t : Int) :
    Calls Tryz.prog 13 #[.pointer (some ⟨X, 0, none⟩), .pointer q, .int .i64 t] w fun e w' => ∃ k ee v j' y', e = .returned (anV k ee v (rightV cf cs ri)) ∧ (rightV cf cs ri = false → k = 0 ∧ ee = 0 ∧ v = 0) ∧ JAt' w' base X j' y' ∧ j'.nr = 1 ∧ Keep (fl y X ++ F) w w' := by
  have hoff : rightV cf cs ri = false → (∀ w', Below w.heap.size w w' → Calls Tryz.prog 25 #[.pointer (some ⟨X, 0, none⟩), .pointer q] w' fun e w'' => e = .returned (.bool false) ∧ Below w'.heap.size w' w'') → Calls Tryz.prog 13 #[.pointer (some ⟨X, 0, none⟩), .pointer q, .int .i64 t] w fun e w' => ∃ k ee v j' y', e = .returned (anV k ee v (rightV cf cs ri)) ∧ (rightV cf cs ri = false → k = 0 ∧ ee = 0 ∧ v = 0) ∧ JAt' w' base X j' y' ∧ j'.nr = 1 ∧ Keep (fl y X ++ F) w w' := fun hr hG => by
    rw [hr]
    refine (step_off hj (.pointer q) t hG).mono ?_
    rintro e w' ⟨rfl, hb'⟩
    exact ⟨0, 0, 0, _, _, rfl, fun _ => ⟨rfl, rfl, rfl⟩, hj.keep (Keep.of_below hb' []) (by simp), rfl, Keep.of_below hb' _⟩
  rcases hm with ⟨rfl, h1, rfl⟩ | ⟨c, r, rfl, rfl, hc, ht, hm⟩
  · refine hoff (by simp [rightV, h1]) (fun w' _ => (goes_nil w' X).mono ?_)
    rintro e w'' ⟨rfl, rfl⟩
    exact ⟨rfl, Below.refl _ _⟩
  · have hv : rightV cf (c : Int) (r : Int) = overV (newJ cf code l) c r := by
      unfold rightV overV
      rw [ht, Bool.true_and]
      rfl
    cases hov : overV (newJ cf code l) c r
    · refine hoff (hv.trans hov) (fun w' hb' => ?_)
      have := goes_any (hj.keep (Keep.of_below hb' []) (by simp)) (hm.below hb')
      rw [hov] at this
      exact this
    · rw [hv, hov]
      refine (first_step ⟨hm, hj, ho⟩ hb hc hok hov t).mono ?_
      rintro e w' ⟨k, ee, v, j', y', F', L', rfl, q1, q2, q3⟩
      exact ⟨k, ee, v, j', y', rfl, (by simp), q1.job, q2, q3.1⟩
end Go.Proofs.YthnegagpmkblfaaGreatDoor.Pj
/- ProgNil, walked. -/
namespace Go.Proofs.YthnegagpmkblfaaGreatDoor.Pj
open Go.ChangeShapes Go.WideShapes Go.ChangeAt Go.RowKit
open Tl (Wn wn0 nth numC Nl)
attribute [local go_sem ↓] Go.wp_at_zero Go.wp_at_succ

set_option maxHeartbeats 2000000 in
theorem nil_walk {w : World} {vr : Value} {c : Tl.Pc.Cf} (h : Tl.Pc.Rl w vr c.R) (code : ByteArray) (cs ri : Int) :
    Calls Tryz.prog 6 #[.agg #[.int .i64 c.raw, .int .i64 c.ring, .int .i64 c.wrs, .int .i64 c.st, .bool c.multi, .int .i64 c.tries, vr, .string code, .int .i64 cs, .int .i64 ri]] w fun e w' => e = .returned (.bool true) ∧ Below w.heap.size w w' := by
  have HSN : Hid (∀ (w : World) (p : Value) (t : Int), Calls Tryz.prog 13 #[.pointer none, p, .int .i64 t] w fun e w' => e = .returned (.agg #[.int .i64 0, .int .i64 0, .int .i64 0, .bool false]) ∧ Below w.heap.size w w') := step_nil
  have HON : Hid (∀ w : World, Calls Tryz.prog 14 #[.pointer none] w fun e w' => e = .returned (.tuple #[.agg #[.int .i64 0, .int .i64 0, .slice none 0 0], .bool false]) ∧ Below w.heap.size w w') := outcome_nil
  have HTN : Hid (∀ w : World, Calls Tryz.prog 15 #[.pointer none] w fun e w' => e = .returned (.tuple #[.int .i64 0, .bool false]) ∧ w' = w) := try_nil
  have HKN : Hid (∀ w : World, Calls Tryz.prog 16 #[.pointer none] w fun e w' => e = .returned (.slice none 0 0) ∧ w' = w) := stack_nil
  have HWN : Hid (∀ w : World, Calls Tryz.prog 17 #[.pointer none] w fun e w' => e = .returned (.slice none 0 0) ∧ w' = w) := writes_nil
  have HDN : Hid (∀ (w : World) (k : Int), Calls Tryz.prog 18 #[.pointer none, .int .i64 k] w fun e w' => e = .returned (.slice none 0 0) ∧ w' = w) := told_nil
  have HMN : Hid (∀ w' : World, Calls Tryz.prog 12 #[.int .i64 cs, .int .i64 ri] w' fun e w'' => ∃ q er F, e = .returned (.tuple #[.pointer q, .int .i64 er]) ∧ Mm w'' w'.heap.size q cs ri F ∧ Below w'.heap.size w' w'') := fun w' => mnew_any w' cs ri
  have HEQ : Hid (∀ w : World, (binOp .neq 48 (.agg #[.int .i64 0, .int .i64 0, .int .i64 0, .bool false]) (.agg #[.int .i64 0, .int .i64 0, .int .i64 0, .bool false])).run Tryz.prog w = .ok (.bool false) w) := neq_an0
  have HNW : Hid (∀ w' : World, Below w.heap.size w w' → w.heap.size + 1 + 1 ≤ w'.heap.size → Calls Tryz.prog 19 #[.agg #[.int .i64 c.raw, .int .i64 c.ring, .int .i64 c.wrs, .int .i64 c.st, .bool c.multi, .int .i64 c.tries, vr], .string code, .slice none 0 0] w' fun e w'' => ∃ px, e = .returned (.tuple #[.pointer px, .int .i64 (Tl.Pg.refV c code [])]) ∧ Below w'.heap.size w' w'' ∧ (Tl.Pg.refV c code [] = 0 → Tl.Pc.okC c = true ∧ ∃ X y, px = some ⟨X, 0, none⟩ ∧ JAt' w'' (w.heap.size + 1 + 1) X (newJ c code []) y ∧ ∀ q ∈ fl y X, w'.heap.size ≤ q)) := fun w' hb hz => new_all hz (Tl.Pc.CfV.later (w := w) ⟨vr, rfl, h⟩ hb (Nat.le_refl _)) code
  have HRF : Hid (∀ w' : World, Below w.heap.size w w' → Calls Tryz.prog 20 #[.agg #[.int .i64 c.raw, .int .i64 c.ring, .int .i64 c.wrs, .int .i64 c.st, .bool c.multi, .int .i64 c.tries, vr], .string code, .slice none 0 0] w' fun e w'' => e = .returned (.int .i64 (Tl.Pg.refV c code [])) ∧ Below w'.heap.size w' w'') := fun w' hb => Tl.Pg.refuses_any (Tl.Pc.CfV.later (w := w) ⟨vr, rfl, h⟩ hb (Nat.le_refl _)) code Nl.nil
  have HRC : Hid (∀ w' : World, Below w.heap.size w w' → Calls Tryz.prog 21 #[.agg #[.int .i64 c.raw, .int .i64 c.ring, .int .i64 c.wrs, .int .i64 c.st, .bool c.multi, .int .i64 c.tries, vr]] w' fun e w'' => e = .returned (.tuple #[.int .i64 (Tl.Pc.cellsV c).1, .int .i64 (Tl.Pc.cellsV c).2]) ∧ Below w'.heap.size w' w'') := fun w' hb => Tl.Pc.rcells_any (Tl.Pc.CfV.later (w := w) ⟨vr, rfl, h⟩ hb (Nat.le_refl _))
  have HTK : Hid (∀ w' : World, Calls Tryz.prog 22 #[.int .i64 cs, .int .i64 ri] w' fun e w'' => e = .returned (.bool (takes cs ri)) ∧ w'' = w') := fun w' => takes_any cs ri w'
  obtain ⟨ar, cap, rfl, _⟩ := h
  generalize c.R.length = nR at *
  have hz := Tl.Pg.ref_cases c code []
  generalize Tl.Pg.refV c code [] = z at *
  go_enter Tryz.func6, Tryz.ntmps6
  go_wp2_with fail
  refine (HMN.out _).mono ?_
  rintro e w1 ⟨q, er, F, rfl, hM, hb1⟩
  have hM' : Mm w1 (w.heap.size + 1 + 1) q cs ri F := by simpa using hM
  have HM1 : Hid (Mm w1 (w.heap.size + 1 + 1) q cs ri F) := hM'
  have HR1 : Hid (w1.heap[w.heap.size + 1]? = some (.cells #[.int .i64 c.raw, .int .i64 c.ring, .int .i64 c.wrs, .int .i64 c.st, .bool c.multi, .int .i64 c.tries, .slice ar nR cap] 32 (0, 0))) := row_on (heap_alloc2_new _ _ _) hb1
  have HB1 : Hid (Below w.heap.size w w1) := below_then (below_then (below_a1 _ _) (below_a1 _ _)) hb1
  have hz1 : w.heap.size + 1 + 1 ≤ w1.heap.size := by simpa using hb1.size
  clear hb1 hM hM' HMN
  go_wp2_with fail
  refine (HSN.out _ _ _).mono ?_
  rintro e w2 ⟨rfl, hb2⟩
  have HM2 : Hid (Mm w2 (w.heap.size + 1 + 1) q cs ri F) := HM1.out.below hb2
  have HR2 : Hid (w2.heap[w.heap.size + 1]? = some (.cells #[.int .i64 c.raw, .int .i64 c.ring, .int .i64 c.wrs, .int .i64 c.st, .bool c.multi, .int .i64 c.tries, .slice ar nR cap] 32 (0, 0))) := row_on HR1.out hb2
  have HB2 : Hid (Below w.heap.size w w2) := below_then HB1.out hb2
  have hz2 : w.heap.size + 1 + 1 ≤ w2.heap.size := Nat.le_trans hz1 hb2.size
  clear hb2 HSN HM1 HR1 HB1 hz1
  go_wp2_with fail
  refine (HON.out _).mono ?_
  rintro e w3 ⟨rfl, hb3⟩
  have hA := Tl.row_next (w := w2) ⟨hb3.os, hb3.tape, hb3.output, hb3.size, hb3.block⟩
  have hB : Below w2.heap.size w2 w3 := below_then (below_a1 _ _) hb3
  have HM3 : Hid (Mm w3 (w.heap.size + 1 + 1) q cs ri F) := HM2.out.below hB
  have HR3 : Hid (w3.heap[w.heap.size + 1]? = some (.cells #[.int .i64 c.raw, .int .i64 c.ring, .int .i64 c.wrs, .int .i64 c.st, .bool c.multi, .int .i64 c.tries, .slice ar nR cap] 32 (0, 0))) := row_on HR2.out hB
  have HB3 : Hid (Below w.heap.size w w3) := below_then HB2.out hB
  have hz3 : w2.heap.size + 1 ≤ w3.heap.size := by simpa using hb3.size
  obtain ⟨a0, a1, a2, a3⟩ := an_cells hA
  have la := heap_lt hA
  clear hb3 hB HON HM2 HR2 HB2
  go_wp2_with fail
  refine (HTN.out _).mono ?_
  rintro e w4 ⟨rfl, rfl⟩
  go_wp2_with fail
  refine (HKN.out _).mono ?_
  rintro e w4 ⟨rfl, rfl⟩
  go_wp2_with fail
  refine (HWN.out _).mono ?_
  rintro e w4 ⟨rfl, rfl⟩
  go_wp2_with fail
  refine (HDN.out _ _).mono ?_
  rintro e w4 ⟨rfl, rfl⟩
  have HEQ' := HEQ.out
  obtain ⟨k0, k1, k2, k3, k4, k5, k6⟩ := Tl.Pg.cf7 HR3.out
  have lc := heap_lt HR3.out
  go_wp2_with fail
  refine (HNW.out _ (below_then HB3.out (below_a1 _ _)) (by simp; omega)).mono ?_
  rintro e w6 ⟨px, rfl, hb6, hJ⟩
  have hb6' : Below w3.heap.size w3 w6 := below_then (below_a1 _ _) hb6
  have HM6 : Hid (Mm w6 (w.heap.size + 1 + 1) q cs ri F) := HM3.out.below hb6'
  have hR6 := row_on HR3.out hb6'
  have HB6 : Hid (Below w.heap.size w w6) := below_then HB3.out hb6'
  have hz6 : w3.heap.size + 1 ≤ w6.heap.size := by simpa using hb6.size
  have HF : Hid (∀ b ∈ F, b < w3.heap.size) := fun b hb => (HM3.out.lt b hb).2
  have HJ6 : Hid (z = 0 → Tl.Pc.okC c = true ∧ ∃ X y, px = some ⟨X, 0, none⟩ ∧ JAt' w6 (w.heap.size + 1 + 1) X (newJ c code []) y ∧ ∀ q ∈ fl y X, w3.heap.size + 1 ≤ q) := fun h0 => by simpa using hJ h0
  clear hb6 hb6' hJ HM3 HR3 HB3 k0 k1 k2 k3 k4 k5 k6 lc a0 a1 a2 a3 la hA HNW HTN HKN HWN HDN
  obtain ⟨k0, k1, k2, k3, k4, k5, k6⟩ := Tl.Pg.cf7 hR6
  have lc := heap_lt hR6
  have HR6 : Hid (w6.heap[w.heap.size + 1]? = some (.cells #[.int .i64 c.raw, .int .i64 c.ring, .int .i64 c.wrs, .int .i64 c.st, .bool c.multi, .int .i64 c.tries, .slice ar nR cap] 32 (0, 0))) := hR6
  clear hR6
  go_wp2_with fail
  refine (HRF.out _ HB6.out).mono ?_
  rintro e w7 ⟨rfl, hb7⟩
  have HM7 : Hid (Mm w7 (w.heap.size + 1 + 1) q cs ri F) := HM6.out.below hb7
  have hR7 := row_on HR6.out hb7
  have HB7 : Hid (Below w.heap.size w w7) := below_then HB6.out hb7
  have hz7 : w6.heap.size ≤ w7.heap.size := hb7.size
  have HK7 : Hid (Below w6.heap.size w6 w7) := hb7
  clear hb7 HM6 HB6 k0 k1 k2 k3 k4 k5 k6 lc HRF HR6
  obtain ⟨k0, k1, k2, k3, k4, k5, k6⟩ := Tl.Pg.cf7 hR7
  have lc := heap_lt hR7
  have HR7 : Hid (w7.heap[w.heap.size + 1]? = some (.cells #[.int .i64 c.raw, .int .i64 c.ring, .int .i64 c.wrs, .int .i64 c.st, .bool c.multi, .int .i64 c.tries, .slice ar nR cap] 32 (0, 0))) := hR7
  clear hR7
  rcases hz with rfl | rfl | rfl
  rotate_left
  · go_wp2_with fail
    go_ret
    exact ⟨rfl, HB7.out⟩
  · go_wp2_with fail
    go_ret
    exact ⟨rfl, HB7.out⟩
  obtain ⟨hok, X, y, rfl, hJ6, hy⟩ := HJ6.out rfl
  have HJ7 : Hid (JAt' w7 (w.heap.size + 1 + 1) X (newJ c code []) y) := hJ6.keep (Keep.of_below HK7.out []) (by simp)
  have HY : Hid (∀ q ∈ fl y X, w3.heap.size + 1 ≤ q) := hy
  clear hJ6 hy HJ6 HK7
  go_wp2_with fail
  refine (HRC.out _ HB7.out).mono ?_
  rintro e w8 ⟨rfl, hb8⟩
  have HM8 : Hid (Mm w8 (w.heap.size + 1 + 1) q cs ri F) := HM7.out.below hb8
  have HJ8 : Hid (JAt' w8 (w.heap.size + 1 + 1) X (newJ c code []) y) := HJ7.out.keep (Keep.of_below hb8 []) (by simp)
  have hR8 := row_on HR7.out hb8
  have HB8 : Hid (Below w.heap.size w w8) := below_then HB7.out hb8
  have hz8 : w7.heap.size ≤ w8.heap.size := hb8.size
  clear hb8 HM7 HJ7 HB7 HR7 HRC k0 k1 k2 k3 k4 k5 k6 lc
  obtain ⟨k0, k1, k2, k3, k4, k5, k6⟩ := Tl.Pg.cf7 hR8
  have lc := heap_lt hR8
  clear hR8
  go_wp2_with fail
  refine (HTK.out _).mono ?_
  rintro e w9 ⟨rfl, rfl⟩
  clear HTK
  have HRV := right_cases c cs ri
  have hBB : w.heap.size + 1 + 1 ≤ w9.heap.size := by omega
  generalize hnd : (Tl.Pc.cellsV c).1 = nd at *
  rcases HRV with ⟨t0, hv⟩ | ⟨t0, t1, hv⟩ | ⟨t0, t1, t2, hv⟩ | ⟨t0, t1, t2, hv⟩
  all_goals
    rw [t0]
    have HV : Hid (rightV c cs ri = _) := hv
    try simp only [decide_eq_true_eq, decide_eq_false_iff_not] at t1
    try simp only [decide_eq_true_eq, decide_eq_false_iff_not] at t2
    clear hv t0
    go_wp2_with fail
    refine (step_no HJ8.out 0).mono ?_
    rintro e w10 ⟨rfl, hb10⟩
    have HM10 : Hid (Mm w10 (w.heap.size + 1 + 1) q cs ri F) := HM8.out.below hb10
    have HJ10 : Hid (JAt' w10 (w.heap.size + 1 + 1) X (newJ c code []) y) := HJ8.out.keep (Keep.of_below hb10 []) (by simp)
    have HB10 : Hid (Below w.heap.size w w10) := below_then HB8.out hb10
    have hz10 : w9.heap.size ≤ w10.heap.size := hb10.size
    clear hb10 HM8 HJ8 HB8 k0 k1 k2 k3 k4 k5 k6 lc
    go_wp2_with fail
    have HS : Calls Tryz.prog 13 #[.pointer (some ⟨X, 0, none⟩), .pointer q, .int .i64 0] (w10.alloc (.cells #[.int .i64 0, .int .i64 0, .int .i64 0, .bool false] 48)) fun e w' => ∃ k ee v j' y', e = .returned (.agg #[.int .i64 k, .int .i64 ee, .int .i64 v, .bool (rightV c cs ri)]) ∧ (rightV c cs ri = false → k = 0 ∧ ee = 0 ∧ v = 0) ∧ JAt' w' (w.heap.size + 1 + 1) X j' y' ∧ j'.nr = 1 ∧ Keep (fl y X ++ F) (w10.alloc (.cells #[.int .i64 0, .int .i64 0, .int .i64 0, .bool false] 48)) w' := step_m (t := 0) (HM10.out.below (below_a1 _ _)) (HJ10.out.keep (Keep.of_below (below_a1 _ _) []) (by simp)) (fun b hb hF => by have h1 := HY.out b hb; have h2 := HF.out b hF; omega) (by simp; omega) hok
    rw [HV.out] at HS
    refine HS.mono ?_
    rintro e w11 ⟨k, ee, v, j', y', rfl, hk0, hJ11, hn, hkeep⟩
    have hlt : ∀ b ∈ fl y X ++ F, w.heap.size + 1 + 1 ≤ b ∧ b < w10.heap.size := fun b hb => by
      rcases List.mem_append.1 hb with h1 | h1
      · obtain ⟨s, hs, h2⟩ := mem_fl.1 h1
        exact HJ10.out.lt s hs b h2
      · exact HM10.out.lt b h1
    have HR11 : Hid (w11.heap[w10.heap.size]? = some (.cells #[.int .i64 0, .int .i64 0, .int .i64 0, .bool false] 48 (0, 0))) := (hkeep.block _ (by simp) (fun hb => by have := (hlt _ hb).2; omega)).trans (heap_alloc_new _ _)
    have HB11 : Hid (Below w.heap.size w w11) := (below_then HB10.out (below_a1 _ _)).trans (hkeep.below (by simp; omega) (fun b hb => by have := (hlt b hb).1; omega))
    have HT : Hid (∀ w', Below w11.heap.size w11 w' → Calls Tryz.prog 15 #[.pointer (some ⟨X, 0, none⟩)] w' fun e w'' => e = .returned (.tuple #[.int .i64 1, .bool j'.pub]) ∧ Below w'.heap.size w' w'') := fun w' hb => by
      have := try_any (hJ11.keep (Keep.of_below hb []) (by simp))
      rw [hn] at this
      exact this
    clear hkeep hlt hJ11 hn HM10 HJ10 HB10 HY HF HV HS
    go_wp2_with fail
    refine (HT.out _ (below_a1 _ _)).mono ?_
    rintro e w12 ⟨rfl, hb12⟩
    have hb12' : Below w11.heap.size w11 w12 := below_then (below_a1 _ _) hb12
    have hD := Tl.row_next (w := w11) ⟨hb12.os, hb12.tape, hb12.output, hb12.size, hb12.block⟩
    have hR12 := row_on HR11.out hb12'
    obtain ⟨d0, d1, d2, d3⟩ := an_cells hD
    obtain ⟨b0, b1, b2, b3⟩ := an_cells hR12
    have lb := heap_lt hR12
    have ld := heap_lt hD
    have HB12 : Hid (Below w.heap.size w w12) := below_then HB11.out hb12'
    have HQ1 := fun w => eql_an 0 0 0 false w (fun _ => ⟨rfl, rfl, rfl⟩)
    first | (have HQ2 := fun w : World => eql_an k ee v false w (by first | exact hk0 | exact fun _ => hk0 trivial | exact fun _ => hk0 rfl)) | (have HQ2 := fun w : World => eql_an k ee v true w (by intro h; cases h))
    clear hb12 hb12' hD hR12 HR11 HB11 HT HEQ HEQ'
    go_wp2_with fail
    all_goals
      go_ret
      first
        | exact ⟨rfl, HB12.out⟩
        | (exfalso; omega)
        | exact ⟨by simp; omega, HB12.out⟩
        | (exfalso; exact t1 ‹ri = c.ring›)
end Go.Proofs.YthnegagpmkblfaaGreatDoor.Pj
