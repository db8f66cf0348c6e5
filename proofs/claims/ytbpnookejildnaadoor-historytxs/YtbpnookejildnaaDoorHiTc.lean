/- Events and transactions compared; a copy of a list of events. -/
import Derived.Test.YtbpnookejildnaaDoorHiPp
import Derived.Test.YtbpnookejildnaaDoorHiAh
import Derived.DeepKeys
namespace Go.Proofs.YtbpnookejildnaaDoor.Hi
open Go.ChangeShapes Go.WideShapes Go.ChangeAt Go.RowKit
set_option linter.unusedVariables false

def sg8 (e : Ev) : Array Value := #[.int .u64 (e.sg 0), .int .u64 (e.sg 1), .int .u64 (e.sg 2), .int .u64 (e.sg 3), .int .u64 (e.sg 4), .int .u64 (e.sg 5), .int .u64 (e.sg 6), .int .u64 (e.sg 7)]
theorem info_u64h : (Tryd.prog.info? 31).map (fun i => (i.zero, i.size, i.bytes)) = some (some (.int .u64 0), 1, 8) := by kernel_rfl
theorem elen_12 {α : Type} {l : List α} (h : l.length = 12) : ∃ a b c d e f g h i j k m, l = [a, b, c, d, e, f, g, h, i, j, k, m] := elen12 h
theorem elen_6 {α : Type} {l : List α} (h : l.length = 6) : ∃ a b c d e f, l = [a, b, c, d, e, f] := by
  match l, h with
  | [a, b, c, d, e, f], _ => exact ⟨a, b, c, d, e, f, rfl⟩
set_option maxRecDepth 100000 in
theorem eq_sg (e : Ev) (w : World) (d : Nat) : (Op.equalIn (d + 2) 33 (.agg (sg8 e)) (.agg (sg8 e))).run Tryd.prog w = .ok true w := by
  obtain ⟨i0, hi, _⟩ := info_parts info_u64h
  rw [run_equalIn_array w (d + 1) _ _ Tryd.underlying33 hi]
  have p0 : (part 31 (sg8 e) 0).run Tryd.prog w = .ok (.int .u64 (e.sg 0)) w := run_part_plain w (by kernel_rfl) rfl
  have p1 : (part 31 (sg8 e) 1).run Tryd.prog w = .ok (.int .u64 (e.sg 1)) w := run_part_plain w (by kernel_rfl) rfl
  have p2 : (part 31 (sg8 e) 2).run Tryd.prog w = .ok (.int .u64 (e.sg 2)) w := run_part_plain w (by kernel_rfl) rfl
  have p3 : (part 31 (sg8 e) 3).run Tryd.prog w = .ok (.int .u64 (e.sg 3)) w := run_part_plain w (by kernel_rfl) rfl
  have p4 : (part 31 (sg8 e) 4).run Tryd.prog w = .ok (.int .u64 (e.sg 4)) w := run_part_plain w (by kernel_rfl) rfl
  have p5 : (part 31 (sg8 e) 5).run Tryd.prog w = .ok (.int .u64 (e.sg 5)) w := run_part_plain w (by kernel_rfl) rfl
  have p6 : (part 31 (sg8 e) 6).run Tryd.prog w = .ok (.int .u64 (e.sg 6)) w := run_part_plain w (by kernel_rfl) rfl
  have p7 : (part 31 (sg8 e) 7).run Tryd.prog w = .ok (.int .u64 (e.sg 7)) w := run_part_plain w (by kernel_rfl) rfl
  have q := fun v : Int => run_equalIn_int (P := Tryd.prog) w d 31 .u64 .u64 v v Tryd.underlying31
  rw [show List.range 8 = [0, 1, 2, 3, 4, 5, 6, 7] from rfl, ecells_u64]
  simp [Op.eqItems, p0, p1, p2, p3, p4, p5, p6, p7, q]
set_option maxRecDepth 100000 in
theorem eq_ev (e : Ev) (w : World) (d : Nat) : (Op.equalIn (d + 3) 35 (.agg (evA e)) (.agg (evA e))).run Tryd.prog w = .ok true w := by
  rw [run_equalIn_struct w (d + 2) 35 _ _ (by kernel_rfl) (by kernel_rfl)]
  have hf : (Tryd.prog.fieldsOf 35).toList.map (fun f => (f.name, f.type, f.offset)) = [("At", 3, 0), ("Thread", 3, 1), ("Tx", 3, 2), ("Kind", 3, 3), ("Cell", 3, 4), ("Value", 2, 5), ("Own", 4, 6), ("Start", 2, 7), ("Seen", 2, 8), ("Stamp", 2, 9), ("Sig", 33, 10), ("Err", 25, 18)] := by kernel_rfl
  generalize (Tryd.prog.fieldsOf 35).toList = fs at *
  have hl : fs.length = 12 := by have := congrArg List.length hf; simpa using this
  obtain ⟨f0, f1, f2, f3, f4, f5, f6, f7, f8, f9, f10, f11, rfl⟩ := elen_12 hl
  simp only [List.map_cons, List.map_nil, List.cons.injEq, Prod.mk.injEq, and_true] at hf
  obtain ⟨⟨n0, t0, o0⟩, ⟨n1, t1, o1⟩, ⟨n2, t2, o2⟩, ⟨n3, t3, o3⟩, ⟨n4, t4, o4⟩, ⟨n5, t5, o5⟩, ⟨n6, t6, o6⟩, ⟨n7, t7, o7⟩, ⟨n8, t8, o8⟩, ⟨n9, t9, o9⟩, ⟨n10, t10, o10⟩, n11, t11, o11⟩ := hf
  have p0 : (part 3 (evA e) 0).run Tryd.prog w = .ok (.int .i64 e.at_) w := run_part_plain w (by kernel_rfl) rfl
  have p1 : (part 3 (evA e) 1).run Tryd.prog w = .ok (.int .i64 e.th) w := run_part_plain w (by kernel_rfl) rfl
  have p2 : (part 3 (evA e) 2).run Tryd.prog w = .ok (.int .i64 e.tx) w := run_part_plain w (by kernel_rfl) rfl
  have p3 : (part 3 (evA e) 3).run Tryd.prog w = .ok (.int .i64 e.kd) w := run_part_plain w (by kernel_rfl) rfl
  have p4 : (part 3 (evA e) 4).run Tryd.prog w = .ok (.int .i64 e.cl) w := run_part_plain w (by kernel_rfl) rfl
  have p5 : (part 2 (evA e) 5).run Tryd.prog w = .ok (.int .i64 e.vl) w := run_part_plain w (by kernel_rfl) rfl
  have p6 : (part 4 (evA e) 6).run Tryd.prog w = .ok (.bool e.ow) w := run_part_plain w (by kernel_rfl) rfl
  have p7 : (part 2 (evA e) 7).run Tryd.prog w = .ok (.int .i64 e.sr) w := run_part_plain w (by kernel_rfl) rfl
  have p8 : (part 2 (evA e) 8).run Tryd.prog w = .ok (.int .i64 e.sn) w := run_part_plain w (by kernel_rfl) rfl
  have p9 : (part 2 (evA e) 9).run Tryd.prog w = .ok (.int .i64 e.sp) w := run_part_plain w (by kernel_rfl) rfl
  have p10 : (part 33 (evA e) 10).run Tryd.prog w = .ok (.agg (sg8 e)) w := by kernel_rfl
  have p11 : (part 25 (evA e) 18).run Tryd.prog w = .ok (.int .i64 e.er) w := run_part_plain w (by kernel_rfl) rfl
  have q1 := fun v : Int => run_equalIn_int (P := Tryd.prog) w (d + 1) 3 .i64 .i64 v v Tryd.underlying3
  have q2 := fun v : Int => run_equalIn_int (P := Tryd.prog) w (d + 1) 2 .i64 .i64 v v Tryd.underlying2
  have q3 := fun v : Int => run_equalIn_int (P := Tryd.prog) w (d + 1) 25 .i64 .i64 v v Tryd.underlying25
  have q4 := fun v : Bool => run_equalIn_bool (P := Tryd.prog) w (d + 1) 4 v v Tryd.underlying4
  have q5 := eq_sg e w d
  simp [Op.eqFields, n0, n1, n2, n3, n4, n5, n6, n7, n8, n9, n10, n11, t0, t1, t2, t3, t4, t5, t6, t7, t8, t9, t10, t11, o0, o1, o2, o3, o4, o5, o6, o7, o8, o9, o10, o11, p0, p1, p2, p3, p4, p5, p6, p7, p8, p9, p10, p11, q1, q2, q3, q4, q5]
theorem neq_ev (e : Ev) (w : World) : (binOp .neq 35 (.agg (evA e)) (.agg (evA e))).run Tryd.prog w = .ok (.bool false) w := by
  rw [run_neq_struct, eq_ev e w 9997]
  rfl
set_option maxRecDepth 100000 in
theorem eq_tx (a b c d e f : Int) (w : World) (k : Nat) : (Op.equalIn (k + 2) 57 (.agg #[.int .i64 a, .int .i64 b, .int .i64 c, .int .i64 d, .int .i64 e, .int .i64 f]) (.agg #[.int .i64 a, .int .i64 b, .int .i64 c, .int .i64 d, .int .i64 e, .int .i64 f])).run Tryd.prog w = .ok true w := by
  rw [run_equalIn_struct w (k + 1) 57 _ _ (by kernel_rfl) (by kernel_rfl)]
  have hf : (Tryd.prog.fieldsOf 57).toList.map (fun f => (f.name, f.type, f.offset)) = [("Thread", 3, 0), ("Begun", 3, 1), ("Ended", 3, 2), ("Stamp", 2, 3), ("Seen", 2, 4), ("Err", 25, 5)] := by kernel_rfl
  generalize (Tryd.prog.fieldsOf 57).toList = fs at *
  have hl : fs.length = 6 := by have := congrArg List.length hf; simpa using this
  obtain ⟨f0, f1, f2, f3, f4, f5, rfl⟩ := elen_6 hl
  simp only [List.map_cons, List.map_nil, List.cons.injEq, Prod.mk.injEq, and_true] at hf
  obtain ⟨⟨n0, t0, o0⟩, ⟨n1, t1, o1⟩, ⟨n2, t2, o2⟩, ⟨n3, t3, o3⟩, ⟨n4, t4, o4⟩, n5, t5, o5⟩ := hf
  have p0 : (part 3 #[.int .i64 a, .int .i64 b, .int .i64 c, .int .i64 d, .int .i64 e, .int .i64 f] 0).run Tryd.prog w = .ok (.int .i64 a) w := run_part_plain w (by kernel_rfl) rfl
  have p1 : (part 3 #[.int .i64 a, .int .i64 b, .int .i64 c, .int .i64 d, .int .i64 e, .int .i64 f] 1).run Tryd.prog w = .ok (.int .i64 b) w := run_part_plain w (by kernel_rfl) rfl
  have p2 : (part 3 #[.int .i64 a, .int .i64 b, .int .i64 c, .int .i64 d, .int .i64 e, .int .i64 f] 2).run Tryd.prog w = .ok (.int .i64 c) w := run_part_plain w (by kernel_rfl) rfl
  have p3 : (part 2 #[.int .i64 a, .int .i64 b, .int .i64 c, .int .i64 d, .int .i64 e, .int .i64 f] 3).run Tryd.prog w = .ok (.int .i64 d) w := run_part_plain w (by kernel_rfl) rfl
  have p4 : (part 2 #[.int .i64 a, .int .i64 b, .int .i64 c, .int .i64 d, .int .i64 e, .int .i64 f] 4).run Tryd.prog w = .ok (.int .i64 e) w := run_part_plain w (by kernel_rfl) rfl
  have p5 : (part 25 #[.int .i64 a, .int .i64 b, .int .i64 c, .int .i64 d, .int .i64 e, .int .i64 f] 5).run Tryd.prog w = .ok (.int .i64 f) w := run_part_plain w (by kernel_rfl) rfl
  have q1 := fun v : Int => run_equalIn_int (P := Tryd.prog) w k 3 .i64 .i64 v v Tryd.underlying3
  have q2 := fun v : Int => run_equalIn_int (P := Tryd.prog) w k 2 .i64 .i64 v v Tryd.underlying2
  have q3 := fun v : Int => run_equalIn_int (P := Tryd.prog) w k 25 .i64 .i64 v v Tryd.underlying25
  simp [Op.eqFields, n0, n1, n2, n3, n4, n5, t0, t1, t2, t3, t4, t5, o0, o1, o2, o3, o4, o5, p0, p1, p2, p3, p4, p5, q1, q2, q3]
theorem neq_tx (a b c d e f : Int) (w : World) : (binOp .neq 57 (.agg #[.int .i64 a, .int .i64 b, .int .i64 c, .int .i64 d, .int .i64 e, .int .i64 f]) (.agg #[.int .i64 a, .int .i64 b, .int .i64 c, .int .i64 d, .int .i64 e, .int .i64 f])).run Tryd.prog w = .ok (.bool false) w := by
  rw [run_neq_struct, eq_tx a b c d e f w 9998]
  rfl
theorem info_ev : (Tryd.prog.info? 35).map (fun i => (i.zero, i.size, i.bytes)) = some (some (evV ev0), 19, 152) := by kernel_rfl
/-- Two rows of transactions that are the same. -/
theorem txs_same {w : World} {Ba Bb n : Nat} {sa sb : Option Addr} {ca cb : Nat} {la lb : List Tr} (ha : w.ownsRow Ba 57 6 (.slice sa n ca) n (t6s la)) (hb : w.ownsRow Bb 57 6 (.slice sb n cb) n (t6s lb)) (hla : la.length = n) (hlb : lb.length = n) (hn : n ≤ 925925926000) (hs : ∀ i, i < n → t6 (nt la i) = t6 (nt lb i)) :
    Calls Tryd.prog 10 #[.slice sa n ca, .slice sb n cb] w fun e w' => e = .returned (.bool true) ∧ Below w.heap.size w w' := by
  have HA : Hid (w.ownsRow Ba 57 6 (.slice sa n ca) n (t6s la)) := ha
  have HB : Hid (w.ownsRow Bb 57 6 (.slice sb n cb) n (t6s lb)) := hb
  have HLA : Hid (la.length = n ∧ lb.length = n) := ⟨hla, hlb⟩
  have HS : Hid (∀ i, i < n → t6 (nt la i) = t6 (nt lb i)) := hs
  have HN : Hid (n ≤ 925925926000) := hn
  have hne : ((n : Int) != (n : Int)) = false := by simp
  clear ha hb hla hlb hs hn
  go_enter Tryd.func10, Tryd.ntmps10
  go_wp2_with fail
  go_loopw [5] (fun iv wr => ∃ i : Nat, i ≤ n ∧ iv = .int .i64 (i : Int) ∧ Hid (Below w.heap.size w wr)) (fun iv _ => n - (intOf iv).toNat)
  case atStart => exact ⟨0, Nat.zero_le _, rfl, Below.refl _ _⟩
  case round =>
    obtain ⟨i, hi, rfl, HZ⟩ := hrel
    by_cases hlt : i < n
    · have hd : decide ((i : Int) < (n : Int)) = true := by simp; omega
      have hin : (i : Int) < (n : Int) := by omega
      have hw : Hid (wrap64 ((i : Int) + 1) = (i : Int) + 1) := hw_inc i n HN.out hi
      have HMS : Hid (n - (i + 1) < n - i) := by rw [Hid]; omega
      have HI1 : Hid (i + 1 ≤ n) := hlt
      obtain ⟨ga, rfl, _, _, hga⟩ := row6 (own_keep HA.out (Keep.of_below HZ.out []) (by simp)) HLA.out.1 hlt
      obtain ⟨gb, rfl, _, _, hgb⟩ := row6 (own_keep HB.out (Keep.of_below HZ.out []) (by simp)) HLA.out.2 hlt
      rw [← HS.out i hlt] at hgb
      generalize nt la i = t at *
      obtain ⟨th, bg, en, st, sn, er, sg, ac⟩ := t
      have a0 : wr.cell? ⟨ga, i * 6, none⟩ = some (.int .i64 th) := hga 0 (by decide)
      have a1 : wr.cell? ⟨ga, i * 6 + 1, none⟩ = some (.int .i64 bg) := hga 1 (by decide)
      have a2 : wr.cell? ⟨ga, i * 6 + 2, none⟩ = some (.int .i64 en) := hga 2 (by decide)
      have a3 : wr.cell? ⟨ga, i * 6 + 3, none⟩ = some (.int .i64 st) := hga 3 (by decide)
      have a4 : wr.cell? ⟨ga, i * 6 + 4, none⟩ = some (.int .i64 sn) := hga 4 (by decide)
      have a5 : wr.cell? ⟨ga, i * 6 + 5, none⟩ = some (.int .i64 er) := hga 5 (by decide)
      have b0 : wr.cell? ⟨gb, i * 6, none⟩ = some (.int .i64 th) := hgb 0 (by decide)
      have b1 : wr.cell? ⟨gb, i * 6 + 1, none⟩ = some (.int .i64 bg) := hgb 1 (by decide)
      have b2 : wr.cell? ⟨gb, i * 6 + 2, none⟩ = some (.int .i64 en) := hgb 2 (by decide)
      have b3 : wr.cell? ⟨gb, i * 6 + 3, none⟩ = some (.int .i64 st) := hgb 3 (by decide)
      have b4 : wr.cell? ⟨gb, i * 6 + 4, none⟩ = some (.int .i64 sn) := hgb 4 (by decide)
      have b5 : wr.cell? ⟨gb, i * 6 + 5, none⟩ = some (.int .i64 er) := hgb 5 (by decide)
      have hq := neq_tx th bg en st sn er
      clear hga hgb hi hlt
      go_wp2_with fail
      go_quiet (fail)
      go_wp2_with fail
      go_roundw
      case rel => exact ⟨i + 1, HI1.out, by first | (rw [hw.out]; go_num) | go_num, below_drawn HZ.out _⟩
      case measure => first | (rw [hw.out]; simpa [intOf] using HMS.out) | (simpa [intOf] using HMS.out)
    · obtain rfl : i = n := by omega
      have hd : decide ((i : Int) < (i : Int)) = false := by simp
      clear hi hlt
      go_wp2_with fail
      go_ret
      exact ⟨rfl, HZ.out⟩
end Go.Proofs.YtbpnookejildnaaDoor.Hi
