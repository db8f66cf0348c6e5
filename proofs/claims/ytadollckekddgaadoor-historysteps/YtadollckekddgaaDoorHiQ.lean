/- A history and an order: its transactions in that order. -/
import Derived.Test.YtadollckekddgaaDoorHiP
import Derived.Test.YtadollckekddgaaDoorHiK
namespace Go.Proofs.YtadollckekddgaaDoor.Hi
open Go.ChangeShapes Go.WideShapes Go.ChangeAt Go.RowKit
set_option linter.unusedVariables false
set_option maxRecDepth 100000

def ni (l : List Int) (i : Nat) : Int := l.getD i 0
theorem take_ni {l : List Int} {j : Nat} (h : j < l.length) : l.take (j + 1) = l.take j ++ [ni l j] := by
  rw [List.take_add_one]
  simp [ni, h]
theorem ni_mem {l : List Int} {j : Nat} (h : j < l.length) : ni l j ∈ l := by
  have : ni l j = l[j] := by simp [ni, h]
  rw [this]
  exact List.getElem_mem h
/-- Numbers behind a slice. -/
def IL (w : World) (v : Value) (l : List Int) : Prop := ∃ a cap, v = .slice a l.length cap ∧ l.length ≤ 17592186044416 ∧ l.length ≤ cap ∧ cap ≤ 9223372036854775807 ∧ (a = none → cap = 0) ∧ (l.length = 0 ∨ ∃ x, a = some x ∧ x.block < w.heap.size ∧ ∀ i, i < l.length → w.cell? (x.add i) = some (.int .i64 (ni l i)))
theorem IL.later {w w' : World} {v : Value} {l : List Int} {B : Nat} (h : IL w v l) (hb : Below B w w') (hB : w.heap.size ≤ B) : IL w' v l := by
  obtain ⟨a, cap, hv, hm, hc1, hc2, hc3, hl⟩ := h
  refine ⟨a, cap, hv, hm, hc1, hc2, hc3, ?_⟩
  rcases hl with h0 | ⟨x, hx, hxb, hc⟩
  · exact Or.inl h0
  · exact Or.inr ⟨x, hx, Nat.lt_of_lt_of_le hxb hb.size, fun i hi => by rw [hb.cell (by rw [add_block]; omega)]; exact hc i hi⟩
def bC (f : Nat → Bool) (n : Nat) : Array Value := ((List.range n).map fun (i : Nat) => Value.bool (f i)).toArray
theorem bC_get (f : Nat → Bool) {n i : Nat} (h : i < n) : (bC f n)[i]? = some (.bool (f i)) := by simp [bC, h]
theorem bC_set (f : Nat → Bool) {n i : Nat} (h : i < n) : (bC f n).setIfInBounds i (.bool true) = bC (fun k => if k = i then true else f k) n := by
  unfold bC
  exact map_set_range h (by simp) (fun q hq => by simp [hq])
theorem info_bool : (Tryd.prog.info? 4).map (fun i => (i.zero, i.size, i.bytes)) = some (some (.bool false), 1, 1) := by kernel_rfl
theorem made_bools (n : Nat) : madeCells (Value.cells (.bool false)) n = bC (fun _ => false) n := by
  unfold madeCells bC
  simp [Value.cells]
  apply Array.ext_getElem?
  intro i
  by_cases h : i < n
  · simp [h, Nat.mod_one]
  · simp [h]
theorem make_bools (w : World) (n : Nat) (hn : n ≤ 925925926000) : (Instr.makeSlice 31 (.int .i64 (n : Int)) (.int .i64 (n : Int))).run Tryd.prog w = .ok (.slice (some ⟨w.heap.size, 0, none⟩) n n) (w.alloc (.cells (bC (fun _ => false) n) 4)) := by
  obtain ⟨i0, hi, hz0, hz1, hz2⟩ := info_parts info_bool
  have hm := run_make (P := Tryd.prog) w 31 4 i0 _ Tryd.underlying31 hi hz0 .i64 .i64 (n : Int) (n : Int) (by omega) (by omega) (by rw [hz2]; omega) (by omega)
  rw [hz1, Int.toNat_natCast, Nat.mul_one, made_bools] at hm
  exact hm
/-- The first numbers of an order may be. -/
def okN (m : Nat) (o : List Int) : Prop := (∀ x ∈ o, 0 ≤ x ∧ x < (m : Int)) ∧ o.Nodup
theorem okN_snoc {m : Nat} {o : List Int} (h : okN m o) {x : Int} (h0 : 0 ≤ x) (h1 : x < (m : Int)) (hn : x ∉ o) : okN m (o ++ [x]) := by
  refine ⟨fun y hy => ?_, ?_⟩
  · simp only [List.mem_append, List.mem_singleton] at hy
    rcases hy with hy | rfl
    · exact h.1 y hy
    · exact ⟨h0, h1⟩
  · rw [List.nodup_append]
    refine ⟨h.2, by simp, fun a ha b hb => ?_⟩
    simp at hb
    subst hb
    exact fun e => hn (e ▸ ha)
theorem okOrd_iff (m : Nat) (o : List Int) : okOrd m o = true ↔ o.length = m ∧ okN m o := by
  unfold okOrd okN
  simp [Bool.and_eq_true, List.all_eq_true, and_assoc]
theorem okOrd_no {m : Nat} {o : List Int} {j : Nat} (hj : j < o.length) (h : ¬ (0 ≤ ni o j ∧ ni o j < (m : Int)) ∨ ni o j ∈ o.take j) : okOrd m o = false := by
  rw [← Bool.not_eq_true, okOrd_iff]
  rintro ⟨_, h1, h2⟩
  rcases h with h | h
  · exact h (h1 _ (ni_mem hj))
  · have e : o = o.take j ++ ni o j :: o.drop (j + 1) := by
      have := List.take_append_drop (j + 1) o
      rw [take_ni hj, List.append_assoc] at this
      exact this.symm
    rw [e, List.nodup_append] at h2
    exact h2.2.2 _ h _ (by simp) rfl
/-- What is read in an order. -/
def OrdQ (w : World) (H : List Ev) (o : List Int) (a c : Addr) (e : Ending) (w' : World) : Prop :=
  (match readD H with
  | some p => if okOrd p.txs.length o = true then ∃ v b V, e = .returned (.tuple #[v, .nilIface]) ∧ LAt w' w.heap.size v (pick p.txs o) b V else e = .returned (.tuple #[.slice none 0 0, snt c])
  | none => e = .returned (.tuple #[.slice none 0 0, flt (good H) a])) ∧ Below w.heap.size w w'
theorem ordq_none {w w' : World} {H : List Ev} {o : List Int} {a c : Addr} {e : Ending} (hr : readD H = none) (h : e = .returned (.tuple #[.slice none 0 0, flt (good H) a])) (hb : Below w.heap.size w w') : OrdQ w H o a c e w' := by
  unfold OrdQ; rw [hr]; exact ⟨h, hb⟩
theorem ordq_bad {w w' : World} {H : List Ev} {o : List Int} {a c : Addr} {e : Ending} {p : Pa} (hr : readD H = some p) (hk : okOrd p.txs.length o = false) (h : e = .returned (.tuple #[.slice none 0 0, snt c])) (hb : Below w.heap.size w w') : OrdQ w H o a c e w' := by
  unfold OrdQ; rw [hr]; simp only; rw [if_neg (by rw [hk]; simp)]; exact ⟨h, hb⟩
theorem ordq_ok {w w' : World} {H : List Ev} {o : List Int} {a c : Addr} {e : Ending} {p : Pa} (hr : readD H = some p) (hk : okOrd p.txs.length o = true) (h : ∃ v b V, e = .returned (.tuple #[v, .nilIface]) ∧ LAt w' w.heap.size v (pick p.txs o) b V) (hb : Below w.heap.size w w') : OrdQ w H o a c e w' := by
  unfold OrdQ; rw [hr]; simp only; rw [if_pos hk]; exact ⟨h, hb⟩
/-- Accesses and values as they must be. -/
def PaOk (p : Pa) : Prop := ∀ i, i < p.txs.length → (∀ y ∈ (nt p.txs i).ac, 0 ≤ y.cell ∧ y.cell < 1024) ∧ AcOk (nt p.txs i)
theorem PAt.xat {w : World} {B P k : Nat} {p : Pa} {b : Nat → Nat} {V : Nat → Value} {vt vp : Value} (h : PAt w B P k p b V vt vp) (hk : k ≤ 925925926000) (ho : PaOk p) {i : Nat} (hi : i < p.txs.length) : XAt w B (b i) (nt p.txs i) (V i) ∧ AcOk (nt p.txs i) :=
  ⟨⟨h.tx i hi, h.ac i hi, Nat.le_trans (h.bd.2.2.2.2 i hi) hk, (ho i hi).1⟩, (ho i hi).2⟩
theorem heap_alloc1_at {w4 : World} {n : Nat} (h : w4.heap.size = n) (o : Obj) : (w4.alloc o).heap[n]? = some o := by subst h; exact heap_alloc_new w4 o
set_option maxHeartbeats 3200000 in
theorem ordered_any {w : World} {v u : Value} {H : List Ev} {o : List Int} {a c : Addr} (h : EvL w v H) (ho : IL w u o) (he : ErrAt w a c) (hpo : ∀ p, readD H = some p → PaOk p) : Calls Tryd.prog 17 #[v, u] w (OrdQ w H o a c) := by
  obtain ⟨i0, hi0, hz0, hz1, hz2⟩ := info_parts info_ptx
  have HRD : Hid (Calls Tryd.prog 10 #[v] w (ReadQ w H a)) := read_any h he
  have HE : Hid (ErrAt w a c) := he
  have HM := h.len
  have HO : Hid (IL w u o) := ho
  obtain ⟨ua, uc, rfl, hol, _, _, _, _⟩ := ho
  clear h he
  unfold ReadQ at HRD
  cases hr : readD H with
  | none =>
    rw [hr] at HRD
    dsimp only at *
    have HF : Hid (∀ e w', e = .returned (.tuple #[.slice none 0 0, flt (good H) a]) → Below w.heap.size w w' → OrdQ w H o a c e w') := fun e w' h1 h2 => ordq_none hr h1 h2
    unfold flt at *
    generalize (Value.agg #[.int .i64 (good H : Int), .iface 127 (.pointer (some a))]) = z at *
    go_enter Tryd.func17, Tryd.ntmps17
    go_wp2_with fail
    refine HRD.out.mono ?_
    rintro e w1 ⟨rfl, hb1⟩
    go_wp2_with fail
    go_ret2
    exact HF.out _ _ rfl hb1
  | some p =>
    have HPO : Hid (PaOk p) := hpo p hr
    have HBAD : Hid (∀ e w', okOrd p.txs.length o = false → e = .returned (.tuple #[.slice none 0 0, snt c]) → Below w.heap.size w w' → OrdQ w H o a c e w') := fun e w' h0 h1 h2 => ordq_bad hr h0 h1 h2
    have HGOOD : Hid (∀ e w', okOrd p.txs.length o = true → (∃ v b V, e = .returned (.tuple #[v, .nilIface]) ∧ LAt w' w.heap.size v (pick p.txs o) b V) → Below w.heap.size w w' → OrdQ w H o a c e w') := fun e w' h0 h1 h2 => ordq_ok hr h0 h1 h2
    rw [hr] at HRD
    dsimp only at *
    clear hpo
    by_cases hlen : o.length = p.txs.length
    · have hlb : ((o.length : Int) != (p.txs.length : Int)) = false := by simp [hlen]
      have HLN : Hid (o.length = p.txs.length) := hlen
      rw [hlen] at hlb HO ⊢
      clear hlen
      go_enter Tryd.func17, Tryd.ntmps17
      go_wp2_with fail
      refine HRD.out.mono ?_
      rintro e w1 ⟨⟨P, b, V, vt, vp, rfl, hp⟩, hb1⟩
      have HP1 : Hid (PAt w1 w.heap.size P H.length p b V vt vp) := hp
      have HB1 : Hid (Below w.heap.size w w1) := hb1
      have hpn : p.txs.length ≤ 925925926000 := Nat.le_trans hp.bd.1 HM
      have hP1 : w1.cell? ⟨P, 1, none⟩ = some vt := by rw [cell_at hp.pa]; simp
      obtain ⟨sa, cap, rfl⟩ := own_slice hp.ts
      have hmk := make_bools w1 p.txs.length hpn
      unfold ptr
      clear hp hb1 HRD
      go_wp2_with fail
      go_loopw [9, 37] (fun lv iv wr => ∃ (j : Nat) (f : Nat → Bool), j ≤ p.txs.length ∧ iv = .int .i64 (j : Int) ∧ Hid (wr.heap[w1.heap.size]? = some (.cells (bC f p.txs.length) 4 (0, 0))) ∧ Hid (∀ k, k < p.txs.length → f k = decide ((k : Int) ∈ o.take j)) ∧ Hid (okN p.txs.length (o.take j)) ∧ Hid (wr.ownsRow w1.heap.size 55 1 lv j ((o.take j).map fun i => ptr (b i.toNat))) ∧ Hid (Below w1.heap.size w1 wr)) (fun _ iv _ => p.txs.length - (intOf iv).toNat)
      case atStart => exact ⟨0, fun _ => false, Nat.zero_le _, rfl, heap_alloc_new w1 _, fun k _ => by simp, ⟨fun x hx => by simp at hx, by simp⟩, ⟨rfl, Or.inl ⟨rfl, rfl⟩⟩, below_a1 _ _⟩
      case round =>
        obtain ⟨j, f, hj, rfl, HF, HFF, HOK, HOL, HB⟩ := hrel
        by_cases hlt : j < p.txs.length
        · have hjo : j < o.length := by rw [HLN.out]; exact hlt
          have hjd : decide ((j : Int) < (p.txs.length : Int)) = true := by simp; omega
          have hil := (HO.out.later HB1.out (Nat.le_refl _)).later HB.out (Nat.le_refl _)
          obtain ⟨ua', uc', hu, _, _, _, _, hcl⟩ := hil
          obtain ⟨x, hxa, hxb, hxc⟩ := hcl.resolve_left (by omega)
          have hua : ua = some x := by simp at hu; rw [hu.1]; exact hxa
          subst hua
          have hz := hxc j hjo
          have HNO : Hid ((¬ (0 ≤ ni o j ∧ ni o j < (p.txs.length : Int)) ∨ ni o j ∈ o.take j) → okOrd p.txs.length o = false) := okOrd_no hjo
          have HT : Hid (o.take (j + 1) = o.take j ++ [ni o j]) := take_ni hjo
          have hw1 : Hid (wrap64 ((j : Int) + 1) = (j : Int) + 1) := inc_cast hpn (by omega)
          have HMS : Hid (p.txs.length - (j + 1) < p.txs.length - j) := by rw [Hid]; omega
          have hjl : (j : Int) < (p.txs.length : Int) := by omega
          have har := (HE.out.later (HB1.out.trans (HB.out.mono HB1.out.size)) (Nat.le_refl _)).ar
          have HBW : Hid (Below w.heap.size w wr) := HB1.out.trans (HB.out.mono HB1.out.size)
          clear hu hcl hxa hxc hjo
          generalize ni o j = z at *
          unfold snt at har
          by_cases hq0 : z < 0
          · have hd0 : decide (z < 0) = true := by simpa using hq0
            have HE2 : Hid (okOrd p.txs.length o = false) := HNO.out (Or.inl (by omega))
            clear hq0 HNO
            go_wp2_with fail
            go_quiet (fail)
            go_wp2_with fail
            go_ret2
            exact HBAD.out _ _ HE2.out rfl (below_drawn HBW.out _)
          · have hd0 : decide (z < 0) = false := by simpa using hq0
            by_cases hq1 : z < (p.txs.length : Int)
            · have hd1 : decide ((p.txs.length : Int) ≤ z) = false := by simpa using hq1
              obtain ⟨zi, rfl⟩ : ∃ zi : Nat, z = (zi : Int) := ⟨z.toNat, by omega⟩
              have hzi : zi < p.txs.length := by omega
              have hfc : wr.cell? ⟨w1.heap.size, zi, none⟩ = some (.bool (f zi)) := by rw [cell_at HF.out]; exact bC_get _ hzi
              have hff := frozen_at HF.out zi
              have HFZ := HFF.out zi hzi
              by_cases hfz : f zi = true
              · have HE2 : Hid (okOrd p.txs.length o = false) := HNO.out (Or.inr (by rw [hfz] at HFZ; simpa using HFZ.symm))
                rw [hfz] at hfc
                clear HFZ hfz hd1 HNO hq0 hq1
                go_wp2_with fail
                go_quiet (fail)
                go_wp2_with fail
                go_ret2
                exact HBAD.out _ _ HE2.out rfl (below_drawn HBW.out _)
              · have hfz' : f zi = false := by simpa using hfz
                have HNI : Hid ((zi : Int) ∉ o.take j) := by rw [hfz'] at HFZ; rw [Hid]; simpa using HFZ.symm
                rw [hfz'] at hfc
                have HPr := HP1.out.later HB.out
                obtain ⟨g, hsg⟩ : ∃ g, sa = some ⟨g, 0, none⟩ := by
                  obtain ⟨g, cap', hs, _, _⟩ := own_at HPr.ts hzi
                  simp at hs
                  exact ⟨g, hs.1⟩
                subst hsg
                have hgi : wr.cell? ⟨g, zi, none⟩ = some (.pointer (some ⟨b zi, 0, none⟩)) := by
                  obtain ⟨g', cap', hs, _, h3⟩ := own_at HPr.ts hzi
                  simp at hs
                  rw [hs.1]
                  exact h3
                have hpp : wr.cell? ⟨P, 1, none⟩ = some (.slice (some ⟨g, 0, none⟩) p.txs.length cap) := by rw [cell_at HPr.pa]; simp
                have hPH : P ≠ w1.heap.size := by have := heap_lt HP1.out.pa; omega
                have hgH : g ≠ w1.heap.size := by have := (own_block HP1.out.ts g rfl).2; omega
                have HK4 : Hid (Keep [w1.heap.size] wr (wr.setCell ⟨w1.heap.size, zi, none⟩ (.bool true))) := (Keep.refl _ _).setCell _ _ (Or.inl (by simp))
                have HF4 : Hid ((wr.setCell ⟨w1.heap.size, zi, none⟩ (.bool true)).heap[w1.heap.size]? = some (.cells (bC (fun k => if k = zi then true else f k) p.txs.length) 4 (0, 0))) := by rw [Hid, heap_set HF.out, bC_set _ hzi]
                have HFF4 : Hid (∀ k, k < p.txs.length → (if k = zi then true else f k) = decide ((k : Int) ∈ o.take (j + 1))) := fun k hk => by
                  rw [HT.out]
                  by_cases e : k = zi
                  · subst e; simp
                  · rw [if_neg e, HFF.out k hk]
                    simp
                    omega
                have HOK4 : Hid (okN p.txs.length (o.take (j + 1))) := by rw [HT.out]; exact okN_snoc HOK.out (by omega) (by omega) HNI.out
                have HOL4 : Hid ((wr.setCell ⟨w1.heap.size, zi, none⟩ (.bool true)).ownsRow w1.heap.size 55 1 _ j ((o.take j).map fun i => ptr (b i.toNat))) := own_keep HOL.out HK4.out (fun y hy hm => by simp at hm; subst hm; exact own_ne HOL.out HF.out (by decide) hy)
                have HNL : Hid ((o.take (j + 1)).map (fun i => ptr (b i.toNat)) = ((o.take j).map fun i => ptr (b i.toNat)) ++ [.pointer (some ⟨b zi, 0, none⟩)]) := by rw [Hid, HT.out]; simp [ptr]
                have hxl : ((o.take j).map fun i => ptr (b i.toNat)).length = j := by simp; have := HLN.out; omega
                have hsz : (wr.setCell ⟨w1.heap.size, zi, none⟩ (.bool true)).heap.size = wr.heap.size := by simp [World.setCell]
                have hjn : j ≤ 925925926000 := by omega
                have hB4 : w1.heap.size ≤ wr.heap.size := HB.out.size
                clear HFZ hfz hfz' HNO HF HFF HOK HNI HPr
                go_wp2_with (at_builtin; refine list_lies_wide _ rfl _ _ 52 rfl w1.heap.size 55 i0 _ 1 8 Tryd.underlying52 hi0 hz0 hz1 hz2 rfl (by decide) _ _ _ rfl (HOL4.out.alloc _) ⟨wr.heap.size, 0, none⟩ 1 1 [.pointer (some ⟨b zi, 0, none⟩)] rfl rfl (World.news_of_block (cs := #[.pointer (some ⟨b zi, 0, none⟩)]) (t := 55) (fr := (0, 0)) (heap_alloc1_at hsz _)) (by simp [Value.oneCell']) (by decide) (by unfold maxLen; omega) (by omega) (by simp [hsz]; omega) _ rfl ?_)
                intro gg cap2 w3 hown1 hgrow hat hlt3
                have k5 : Keep [] (wr.setCell ⟨w1.heap.size, zi, none⟩ (.bool true)) ((wr.setCell ⟨w1.heap.size, zi, none⟩ (.bool true)).alloc (.cells #[.pointer (some ⟨b zi, 0, none⟩)] 55)) := (Keep.refl [] _).alloc _
                have hnH : ∀ y, (Value.ownBlock _) = some y → y ≠ w1.heap.size := fun y hy => fun e => own_ne HOL4.out HF4.out (by decide) (e ▸ hy)
                have k6 := (k5.mono (G := (Value.ownBlock _).toList) (by simp)).grown hgrow (fun b hb => Or.inl (by rw [hb]; simp))
                have HF5 : Hid (w3.heap[w1.heap.size]? = some (.cells (bC (fun k => if k = zi then true else f k) p.txs.length) 4 (0, 0))) := by
                  rw [Hid, k6.block _ (heap_lt HF4.out) (fun hm => hnH _ (by simpa using hm) rfl)]
                  exact HF4.out
                have HB5 : Hid (Below w1.heap.size w1 w3) := (HB.out.trans (HK4.out.below hB4 (by simp))).trans (k6.below (by rw [hsz]; exact hB4) (fun y hy => (own_block HOL4.out y (by simpa using hy)).1))
                have HO5 : Hid (w3.ownsRow w1.heap.size 55 1 (.slice (some ⟨gg, 0, none⟩) (j + 1) cap2) (j + 1) ((o.take (j + 1)).map fun i => ptr (b i.toNat))) := by
                  rw [Hid, HNL.out]
                  simpa [List.map_take] using hown1
                clear hown1 hgrow hat hlt3 k5 k6 hnH HOL4 HF4 HK4 HNL HOL
                go_wp2_with fail
                go_roundw
                case rel => exact ⟨j + 1, _, hlt, by go_num, HF5, HFF4, HOK4, HO5, HB5⟩
                case measure => simpa [intOf] using HMS.out
            · have hd1 : decide ((p.txs.length : Int) ≤ z) = true := by simpa using hq1
              have HE2 : Hid (okOrd p.txs.length o = false) := HNO.out (Or.inl (by omega))
              clear hq0 hq1 HNO
              go_wp2_with fail
              go_quiet (fail)
              go_wp2_with fail
              go_ret2
              exact HBAD.out _ _ HE2.out rfl (below_drawn HBW.out _)
        · obtain rfl : j = p.txs.length := by omega
          have hto : o.take p.txs.length = o := by rw [← HLN.out, List.take_length]
          have hok := HOK.out
          have hol := HOL.out
          rw [hto] at hok hol
          have HOK2 : Hid (okN p.txs.length o) := hok
          have HOL2 : Hid (wr.ownsRow w1.heap.size 55 1 _ p.txs.length (o.map fun i => ptr (b i.toNat))) := hol
          clear hok hol HOK HOL hto hj
          go_wp2_with fail
          go_ret2
          have hpl : (pick p.txs o).length = p.txs.length := by rw [← HLN.out]; simp [pick]
          have hpr : ptrs (fun i => b (ni o i).toNat) p.txs.length = o.map fun i => ptr (b i.toNat) := by
            rw [← HLN.out]
            apply List.ext_getElem
            · simp [ptrs]
            · intro i h1 h2
              have hi : i < o.length := by simpa using h2
              simp [ptrs, ni, hi]
          refine HGOOD.out _ _ ((okOrd_iff _ _).2 ⟨HLN.out, HOK2.out⟩) ⟨_, fun i => b (ni o i).toNat, fun i => V (ni o i).toNat, rfl, ?_, by rw [hpl]; exact hpn, fun i hi => ?_⟩ (HB1.out.trans (HB.out.mono HB1.out.size))
          · rw [hpl, hpr]
            exact own_base HOL2.out HB1.out.size
          · rw [hpl] at hi
            have hio : i < o.length := by rw [HLN.out]; exact hi
            have hin := HOK2.out.1 _ (ni_mem hio)
            have hnt : nt (pick p.txs o) i = nt p.txs (ni o i).toNat := by simp [nt, pick, ni, hio]
            rw [hnt]
            exact (HP1.out.later HB.out).xat HM HPO.out (by omega)
    · have hok : okOrd p.txs.length o = false := by
        rw [← Bool.not_eq_true, okOrd_iff]
        exact fun h => hlen h.1
      have HOKF : Hid (okOrd p.txs.length o = false) := hok
      have hlb : ((o.length : Int) != (p.txs.length : Int)) = true := by simp; omega
      clear hok hlen
      go_enter Tryd.func17, Tryd.ntmps17
      go_wp2_with fail
      refine HRD.out.mono ?_
      rintro e w1 ⟨⟨P, b, V, vt, vp, rfl, hp⟩, hb1⟩
      have HB1 : Hid (Below w.heap.size w w1) := hb1
      have hP1 : w1.cell? ⟨P, 1, none⟩ = some vt := by rw [cell_at hp.pa]; simp
      obtain ⟨sa, cap, rfl⟩ := own_slice hp.ts
      have har := (HE.out.later HB1.out (Nat.le_refl _)).ar
      unfold ptr
      unfold snt at har
      clear hp hb1 HRD
      go_wp2_with fail
      go_quiet (fail)
      go_wp2_with fail
      go_ret2
      exact HBAD.out _ _ HOKF.out rfl (below_drawn HB1.out _)
end Go.Proofs.YtadollckekddgaaDoor.Hi
