/- The document's Entries: a list of its own. -/
import Derived.Test.YtacioekmeildoaaRngI
namespace Go.Proofs.Ytacioekmeildoaa
open Go.ChangeShapes Go.WideShapes Go.ChangeAt Go.RowKit
attribute [local go_sem ↓] Go.wp_at_zero Go.wp_at_succ

theorem en_cells {w : World} {b : Nat} {t : TypeId} {st m : Int} {g : Int → Int} (h : w.heap[b]? = some (.cells (enC ⟨st, m, g⟩) t (0, 0))) :
    w.cell? ⟨b, 0, none⟩ = some (.int .i64 st) ∧ w.cell? ⟨b, 1, none⟩ = some (.int .i64 m) ∧ w.cell? ⟨b, 2, none⟩ = some (.int .u64 (g 0)) ∧ w.cell? ⟨b, 3, none⟩ = some (.int .u64 (g 1)) ∧ w.cell? ⟨b, 4, none⟩ = some (.int .u64 (g 2)) ∧
    w.cell? ⟨b, 5, none⟩ = some (.int .u64 (g 3)) ∧ w.cell? ⟨b, 6, none⟩ = some (.int .u64 (g 4)) ∧ w.cell? ⟨b, 7, none⟩ = some (.int .u64 (g 5)) ∧ w.cell? ⟨b, 8, none⟩ = some (.int .u64 (g 6)) ∧ w.cell? ⟨b, 9, none⟩ = some (.int .u64 (g 7)) := by
  refine ⟨?_, ?_, ?_, ?_, ?_, ?_, ?_, ?_, ?_, ?_⟩ <;> (rw [cell_at h]; rfl)
theorem heap_alloc_at {w : World} {o : Obj} {n : Nat} (h : n = w.heap.size) : (w.alloc o).heap[n]? = some o := by subst h; exact heap_alloc_new _ _
theorem en_mark {w : World} {b : Nat} {t : TypeId} {st m : Int} {g : Int → Int} (h : w.heap[b]? = some (.cells (enC ⟨st, m, g⟩) t (0, 0))) (m' : Int) : (w.setCell ⟨b, 1, none⟩ (.int .i64 m')).heap[b]? = some (.cells (enC ⟨st, m', g⟩) t (0, 0)) := by
  rw [heap_set h]; rfl
/-- Below w, a list of our own, and the entry that is made. -/
structure Mk (w X : World) (u : Value) (l : List En) (B : Nat) (st m : Int) (g : Int → Int) : Prop where
  e : X.heap[B]? = some (.cells (enC ⟨st, m, g⟩) 56 (0, 0))
  o : X.ownsRow w.heap.size 56 10 u l.length (entC l)
  ne : u.ownBlock ≠ some B
  lo : w.heap.size ≤ B
  b : Below w.heap.size w X
theorem Mk.later {w X Y : World} {u : Value} {l : List En} {B : Nat} {st m : Int} {g : Int → Int} (h : Mk w X u l B st m g) (hb : Below X.heap.size X Y) : Mk w Y u l B st m g :=
  ⟨row_later h.e hb, own_keep h.o (Keep.of_below hb []) (fun _ _ => by simp), h.ne, h.lo, below_then h.b hb⟩
theorem Mk.mark {w X : World} {u : Value} {l : List En} {B : Nat} {st m : Int} {g : Int → Int} (h : Mk w X u l B st m g) (m' : Int) : Mk w (X.setCell ⟨B, 1, none⟩ (.int .i64 m')) u l B st m' g :=
  ⟨en_mark h.e m', own_keep h.o ((Keep.refl [B] _).setCell _ _ (Or.inl (by simp))) (fun b hb hm => by simp at hm; subst hm; exact h.ne hb), h.ne, h.lo, below_setCell h.b _ h.lo _⟩
theorem Mk.sig {w X : World} {u : Value} {l : List En} {B : Nat} {st m : Int} {g : Int → Int} (h : Mk w X u l B st m g) (g' : Int → Int) : Mk w (X.setRow B (enC ⟨st, m, g'⟩)) u l B st m g' :=
  ⟨setRow_heap _ _ _ _ _ _ h.e, own_keep h.o (F := [B]) ⟨rfl, rfl, rfl, by rw [setRow_size]; exact Nat.le_refl _, fun b _ hb => setRow_other _ _ _ _ (fun e => hb (by simp [e]))⟩ (fun b hb hm => by simp at hm; subst hm; exact h.ne hb), h.ne, h.lo, below_setRow h.b _ h.lo _⟩

set_option maxRecDepth 100000 in
set_option maxHeartbeats 3200000 in
theorem rentries_any {w : World} {base : Nat} {p : Value} {c r : Nat} {L : List Ac} {F : List Nat} (h : RefAt w base p c r L F) (hr : r ≤ 16) (hL : L.length ≤ 2199023255552) (hW : Bd (wordOf L)) :
    Calls Try.prog 37 #[p] w fun e w' => ∃ v, e = .returned v ∧ w'.ownsRow w.heap.size 56 10 v (entsV (wordOf L) r).length (entC (entsV (wordOf L) r)) ∧ Below w.heap.size w w' := by
  obtain ⟨i0, hi, hz0, hz1, hz2⟩ := info_parts info_ent
  have HNW : Hid (Calls Try.prog 35 #[p] w fun e w'' => e = .returned (.int .i64 (wordOf L ⟨1, 0, 0⟩)) ∧ Below w.heap.size w w'') := rnewest_any h hL
  have HFI : Hid (∀ w', Below w.heap.size w w' → Calls Try.prog 44 #[p] w' fun e w'' => e = .returned (.int .i64 (beforeV (wordOf L) r)) ∧ Below w'.heap.size w' w'') := fun w' hb => rfirst_any (h.below hb) hL (hW _).2
  have HHE : Hid (∀ w' st, Below w.heap.size w w' → Calls Try.prog 45 #[p, .int .i64 st] w' fun e w'' => e = .returned (.int .i64 (headV' (wordOf L) r st)) ∧ Below w'.heap.size w' w'') := fun w' st hb => rheadw_any (h.below hb) hL st
  have HSG : Hid (∀ w' st, Below w.heap.size w w' → Calls Try.prog 46 #[p, .int .i64 st] w' fun e w'' => e = .returned (.agg (sgC (sgV (wordOf L) (slotV st r)))) ∧ Below w'.heap.size w' w'') := fun w' st hb => rsig_any (h.below hb) hL st
  have HOV : Hid (∀ st w', Calls Try.prog 11 #[.int .i64 (headV' (wordOf L) r st), .int .i64 st] w' fun e w'' => e = .returned (.bool (overV (headV' (wordOf L) r st) st)) ∧ w'' = w') := fun st w' => rover_any _ _ (hW _).1 (hW _).2 w'
  have HLA : Hid (∀ st w', Calls Try.prog 13 #[.int .i64 (headV' (wordOf L) r st), .int .i64 st] w' fun e w'' => e = .returned (.bool (laidV (headV' (wordOf L) r st) st)) ∧ w'' = w') := fun st w' => rlaid_any _ _ (hW _).1 (hW _).2 w'
  obtain ⟨M, rfl, hM, hc1⟩ := h.size
  have hmax := (hW ⟨1, 0, 0⟩).2
  clear h hL hW hM hc1
  have hla : lastV (wordOf L) = max (wordOf L ⟨1, 0, 0⟩) 0 := rfl
  have hbe : 0 ≤ beforeV (wordOf L) r ∧ beforeV (wordOf L) r ≤ lastV (wordOf L) := by unfold beforeV lastV; omega
  have hmm : (manyV (wordOf L) r : Int) = lastV (wordOf L) - beforeV (wordOf L) r := by unfold manyV; omega
  have h16 : manyV (wordOf L) r ≤ 16 := by have := manyV_le (wordOf L) r (by omega); omega
  have HEL : Hid ((entsV (wordOf L) r).length = manyV (wordOf L) r) := entsV_len _ _
  by_cases hz : wordOf L ⟨1, 0, 0⟩ < 1
  · have HE : Hid (entsV (wordOf L) r = []) := List.eq_nil_of_length_eq_zero (by rw [HEL.out]; omega)
    have hd : decide (wordOf L ⟨1, 0, 0⟩ < 1) = true := decide_eq_true hz
    rw [HE.out]
    generalize wordOf L ⟨1, 0, 0⟩ = z at *
    clear hla hmm hz hbe h16 HE HEL
    go_enter Try.func37, Try.ntmps37
    go_wp2_with fail
    refine HNW.out.mono ?_
    rintro e w1 ⟨rfl, hb1⟩
    have HB : Hid (Below w.heap.size w w1) := hb1
    clear hb1
    go_wp2
    go_ret
    exact ⟨_, rfl, World.ownsRow_nil _ _ _ _, HB.out⟩
  · have hd : decide (wordOf L ⟨1, 0, 0⟩ < 1) = false := decide_eq_false hz
    have HNX : Hid (∀ k, k < manyV (wordOf L) r → (entsV (wordOf L) r).take (k + 1) = (entsV (wordOf L) r).take k ++ [entryV (wordOf L) r (beforeV (wordOf L) r + 1 + k)]) := fun k hk => take_map_range _ _ k hk
    have hzn : wordOf L ⟨1, 0, 0⟩ = beforeV (wordOf L) r + (manyV (wordOf L) r : Int) := by omega
    rw [hzn] at HNW hd hmax
    clear hla hzn hz hmm hr
    have hbe0 := hbe.1
    clear hbe
    generalize beforeV (wordOf L) r = be at *
    generalize manyV (wordOf L) r = mm at *
    generalize entsV (wordOf L) r = es at *
    go_enter Try.func37, Try.ntmps37
    go_wp2_with fail
    refine HNW.out.mono ?_
    rintro e w1 ⟨rfl, hb1⟩
    have HB : Hid (Below w.heap.size w w1) := hb1
    clear hb1
    go_wp2_with fail
    refine (HFI.out _ HB.out).mono ?_
    rintro e w2 ⟨rfl, hb2⟩
    have HB2 : Hid (Below w.heap.size w w2) := below_then HB.out hb2
    clear hb2
    have hmw : be + (mm : Int) - be = (mm : Int) := by omega
    go_wp2
    go_loopw [4, 6] (fun ov kv wr => ∃ k : Nat, k ≤ mm ∧ kv = .int .i64 k ∧ wr.ownsRow w.heap.size 56 10 ov (es.take k).length (entC (es.take k)) ∧ Below w.heap.size w wr) (fun _ kv _ => mm - (intOf kv).toNat)
    case atStart => exact ⟨0, Nat.zero_le _, rfl, by simpa [entC] using World.ownsRow_nil _ _ _ _, HB2.out⟩
    case round =>
      obtain ⟨k, hk, rfl, how, hb⟩ := hrel
      have HO : Hid (wr.ownsRow w.heap.size 56 10 u4 (es.take k).length (entC (es.take k))) := how
      have HL : Hid (Below w.heap.size w wr) := hb
      clear how hb
      by_cases hlt : k < mm
      · have hd2 : decide ((k : Int) < (mm : Int)) = true := by simp; omega
        have hw1 : be + (mm : Int) - (mm : Int) = be := by omega
        have HHE2 : Hid (∀ w', Below w.heap.size w w' → Calls Try.prog 45 #[.pointer (some ⟨M, 0, none⟩), .int .i64 (be + 1 + (k : Int))] w' fun e w'' => e = .returned (.int .i64 (headV' (wordOf L) r (be + 1 + (k : Int)))) ∧ Below w'.heap.size w' w'') := fun w' hb => HHE.out w' _ hb
        have HSG2 : Hid (∀ w', Below w.heap.size w w' → Calls Try.prog 46 #[.pointer (some ⟨M, 0, none⟩), .int .i64 (be + 1 + (k : Int))] w' fun e w'' => e = .returned (.agg (sgC (sgV (wordOf L) (slotV (be + 1 + (k : Int)) r)))) ∧ Below w'.heap.size w' w'') := fun w' hb => HSG.out w' _ hb
        have HOV2 : Hid (∀ w', Calls Try.prog 11 #[.int .i64 (headV' (wordOf L) r (be + 1 + (k : Int))), .int .i64 (be + 1 + (k : Int))] w' fun e w'' => e = .returned (.bool (overV (headV' (wordOf L) r (be + 1 + (k : Int))) (be + 1 + (k : Int)))) ∧ w'' = w') := HOV.out _
        have HLA2 : Hid (∀ w', Calls Try.prog 13 #[.int .i64 (headV' (wordOf L) r (be + 1 + (k : Int))), .int .i64 (be + 1 + (k : Int))] w' fun e w'' => e = .returned (.bool (laidV (headV' (wordOf L) r (be + 1 + (k : Int))) (be + 1 + (k : Int)))) ∧ w'' = w') := HLA.out _
        have HNX2 := HNX.out k hlt
        unfold entryV markV at HNX2
        generalize sgV (wordOf L) (slotV (be + 1 + (k : Int)) r) = g at *
        generalize headV' (wordOf L) r (be + 1 + (k : Int)) = hh at *
        have hst : be + 1 + (k : Int) = be + 1 + (k : Int) := rfl
        generalize hsv : be + 1 + (k : Int) = st at *
        clear hst
        have hlk : (es.take k).length = k := by have := HEL.out; simp; omega
        have HLK : Hid ((es.take k).length = k) := hlk
        generalize es.take k = K at *
        have hsz := HL.out.size
        have HON : Hid (u4.ownBlock ≠ some wr.heap.size) := fun e => by have := (own_block HO.out _ e).2; omega
        rw [hlk] at HO
        obtain ⟨av, cv, rfl⟩ := own_slice HO.out
        clear hlk
        cases hla : laidV hh st
        · cases hov : overV hh st
          · have HNX3 : Hid (es.take (k + 1) = K ++ [⟨st, 1, (fun _ => 0)⟩]) := by rw [Hid, HNX2, hla, hov]; rfl
            clear HNX2
            go_wp2_with fail
            refine (HHE2.out _ (below_alloc HL.out _)).mono ?_
            rintro e w3 ⟨rfl, hb3⟩
            have HK : Hid (Mk w w3 (.slice av k cv) K wr.heap.size st 1 (fun _ => 0)) := Mk.later ⟨heap_alloc_new _ _, by rw [HLK.out]; exact HO.out.alloc _, HON.out, hsz, below_alloc HL.out _⟩ hb3
            clear hb3
            go_wp2_with fail
            refine (HLA2.out _).mono ?_
            rintro e wx ⟨rfl, hx⟩
            rw [hx, hla]
            clear hx wx
            go_wp2_with fail
            refine (HOV2.out _).mono ?_
            rintro e wx ⟨rfl, hx⟩
            rw [hx, hov]
            clear hx wx
            have HK5 := HK
            clear HK
            obtain ⟨w5, hw5⟩ : ∃ w5, w5 = w3 := ⟨_, rfl⟩
            rw [← hw5] at HK5 ⊢
            clear hw5 w3
            have HK6 := HK5
            have hl := en_cells HK6.out.e
            have HO6 : Hid (World.ownsRow w5 w.heap.size 56 10 (.slice av k cv) k (entC K)) := by have := HK6.out.o; rwa [HLK.out] at this
            have hs6 := HK6.out.b.size
            go_wp2_with (at_builtin; refine wpList_append_lies _ rfl _ _ 50 rfl w.heap.size 56 i0 _ 10 80 Try.underlying50 hi hz0 hz1 hz2 rfl (by decide) _ _ _ rfl (HO6.out.alloc _) _ 1 1 (enC ⟨st, 1, (fun _ => 0)⟩).toList rfl rfl (World.news_of_block (cs := enC ⟨st, 1, (fun _ => 0)⟩) (t := 56) (fr := (0, 0)) (heap_alloc_at (by first | rfl | simp [World.setCell]))) ?c002 (by decide) ?c003 ?c004 ?c005 _ rfl ?_)
            case c002 => simp [enC, Value.oneCell']
            case c003 => unfold maxLen; omega
            case c004 => omega
            case c005 => first | omega | (simp at *; omega)
            intro gg cap' w7 hown1 hgrow hat _
            have HO7 : Hid (w7.ownsRow w.heap.size 56 10 (.slice (some ⟨gg, 0, none⟩) (k + 1) cap') (K ++ [En.mk st 1 (fun _ => 0)]).length (entC (K ++ [En.mk st 1 (fun _ => 0)]))) := by
              rw [Hid, entC_snoc, List.length_append, HLK.out]; exact hown1
            have HB7 : Hid (Below w.heap.size w w7) := (below_alloc HK6.out.b _).grown hgrow (by simp at *; omega) (fun b hb => (own_block HO6.out b hb).1)
            clear hown1 hgrow hat hl
            go_wp2
            go_roundw
            case rel => exact ⟨k + 1, by omega, by go_num, by rw [HNX3.out]; exact HO7.out, HB7.out⟩
            case measure => simp [intOf]; omega
          · have HNX3 : Hid (es.take (k + 1) = K ++ [⟨st, 3, (fun _ => 0)⟩]) := by rw [Hid, HNX2, hla, hov]; rfl
            clear HNX2
            go_wp2_with fail
            refine (HHE2.out _ (below_alloc HL.out _)).mono ?_
            rintro e w3 ⟨rfl, hb3⟩
            have HK : Hid (Mk w w3 (.slice av k cv) K wr.heap.size st 1 (fun _ => 0)) := Mk.later ⟨heap_alloc_new _ _, by rw [HLK.out]; exact HO.out.alloc _, HON.out, hsz, below_alloc HL.out _⟩ hb3
            clear hb3
            go_wp2_with fail
            refine (HLA2.out _).mono ?_
            rintro e wx ⟨rfl, hx⟩
            rw [hx, hla]
            clear hx wx
            go_wp2_with fail
            refine (HOV2.out _).mono ?_
            rintro e wx ⟨rfl, hx⟩
            rw [hx, hov]
            clear hx wx
            have HK5 := HK
            clear HK
            obtain ⟨w5, hw5⟩ : ∃ w5, w5 = w3 := ⟨_, rfl⟩
            rw [← hw5] at HK5 ⊢
            clear hw5 w3
            have hcm := (en_cells HK5.out.e).2.1
            have hfm := frozen_at HK5.out.e 1
            have HK6 : Hid (Mk w (w5.setCell ⟨wr.heap.size, 1, none⟩ (.int .i64 3)) (.slice av k cv) K wr.heap.size st 3 (fun _ => 0)) := HK5.out.mark 3
            have hl := en_cells HK6.out.e
            have HO6 : Hid (World.ownsRow (w5.setCell ⟨wr.heap.size, 1, none⟩ (.int .i64 3)) w.heap.size 56 10 (.slice av k cv) k (entC K)) := by have := HK6.out.o; rwa [HLK.out] at this
            have hs6 := HK6.out.b.size
            go_wp2_with (at_builtin; refine wpList_append_lies _ rfl _ _ 50 rfl w.heap.size 56 i0 _ 10 80 Try.underlying50 hi hz0 hz1 hz2 rfl (by decide) _ _ _ rfl (HO6.out.alloc _) _ 1 1 (enC ⟨st, 3, (fun _ => 0)⟩).toList rfl rfl (World.news_of_block (cs := enC ⟨st, 3, (fun _ => 0)⟩) (t := 56) (fr := (0, 0)) (heap_alloc_at (by first | rfl | simp [World.setCell]))) ?c012 (by decide) ?c013 ?c014 ?c015 _ rfl ?_)
            case c012 => simp [enC, Value.oneCell']
            case c013 => unfold maxLen; omega
            case c014 => omega
            case c015 => first | omega | (simp at *; omega)
            intro gg cap' w7 hown1 hgrow hat _
            have HO7 : Hid (w7.ownsRow w.heap.size 56 10 (.slice (some ⟨gg, 0, none⟩) (k + 1) cap') (K ++ [En.mk st 3 (fun _ => 0)]).length (entC (K ++ [En.mk st 3 (fun _ => 0)]))) := by
              rw [Hid, entC_snoc, List.length_append, HLK.out]; exact hown1
            have HB7 : Hid (Below w.heap.size w w7) := (below_alloc HK6.out.b _).grown hgrow (by simp at *; omega) (fun b hb => (own_block HO6.out b hb).1)
            clear hown1 hgrow hat hl
            go_wp2
            go_roundw
            case rel => exact ⟨k + 1, by omega, by go_num, by rw [HNX3.out]; exact HO7.out, HB7.out⟩
            case measure => simp [intOf]; omega
        · cases hov : overV hh st
          · have HNX3 : Hid (es.take (k + 1) = K ++ [⟨st, 2, g⟩]) := by rw [Hid, HNX2, hla, hov]; rfl
            clear HNX2
            go_wp2_with fail
            refine (HHE2.out _ (below_alloc HL.out _)).mono ?_
            rintro e w3 ⟨rfl, hb3⟩
            have HK : Hid (Mk w w3 (.slice av k cv) K wr.heap.size st 1 (fun _ => 0)) := Mk.later ⟨heap_alloc_new _ _, by rw [HLK.out]; exact HO.out.alloc _, HON.out, hsz, below_alloc HL.out _⟩ hb3
            clear hb3
            go_wp2_with fail
            refine (HLA2.out _).mono ?_
            rintro e wx ⟨rfl, hx⟩
            rw [hx, hla]
            clear hx wx
            go_wp2_with fail
            refine (HOV2.out _).mono ?_
            rintro e wx ⟨rfl, hx⟩
            rw [hx, hov]
            clear hx wx
            have hcm := (en_cells HK.out.e).2.1
            have hfm := frozen_at HK.out.e 1
            go_wp2_with fail
            refine (HSG2.out _ (HK.out.mark 2).b).mono ?_
            rintro e w4 ⟨rfl, hb4⟩
            have HK4 : Hid (Mk w w4 (.slice av k cv) K wr.heap.size st 2 (fun _ => 0)) := (HK.out.mark 2).later hb4
            clear hb4 hcm hfm
            have hz := sgC_size g
            generalize hcs : sgC g = cs at *
            have hst1 := store_sg (P := Try.prog) HK4.out.e hcs.symm
            clear hcs
            have HK5 : Hid (Mk w (w4.setRow wr.heap.size (enC ⟨st, 2, g⟩)) (.slice av k cv) K wr.heap.size st 2 g) := HK4.out.sig g
            generalize w4.setRow wr.heap.size (enC ⟨st, 2, g⟩) = w5 at *
            have HK6 := HK5
            have hl := en_cells HK6.out.e
            have HO6 : Hid (World.ownsRow w5 w.heap.size 56 10 (.slice av k cv) k (entC K)) := by have := HK6.out.o; rwa [HLK.out] at this
            have hs6 := HK6.out.b.size
            go_wp2_with (at_builtin; refine wpList_append_lies _ rfl _ _ 50 rfl w.heap.size 56 i0 _ 10 80 Try.underlying50 hi hz0 hz1 hz2 rfl (by decide) _ _ _ rfl (HO6.out.alloc _) _ 1 1 (enC ⟨st, 2, g⟩).toList rfl rfl (World.news_of_block (cs := enC ⟨st, 2, g⟩) (t := 56) (fr := (0, 0)) (heap_alloc_at (by first | rfl | simp [World.setCell]))) ?c102 (by decide) ?c103 ?c104 ?c105 _ rfl ?_)
            case c102 => simp [enC, Value.oneCell']
            case c103 => unfold maxLen; omega
            case c104 => omega
            case c105 => first | omega | (simp at *; omega)
            intro gg cap' w7 hown1 hgrow hat _
            have HO7 : Hid (w7.ownsRow w.heap.size 56 10 (.slice (some ⟨gg, 0, none⟩) (k + 1) cap') (K ++ [En.mk st 2 g]).length (entC (K ++ [En.mk st 2 g]))) := by
              rw [Hid, entC_snoc, List.length_append, HLK.out]; exact hown1
            have HB7 : Hid (Below w.heap.size w w7) := (below_alloc HK6.out.b _).grown hgrow (by simp at *; omega) (fun b hb => (own_block HO6.out b hb).1)
            clear hown1 hgrow hat hl
            go_wp2
            go_roundw
            case rel => exact ⟨k + 1, by omega, by go_num, by rw [HNX3.out]; exact HO7.out, HB7.out⟩
            case measure => simp [intOf]; omega
          · have HNX3 : Hid (es.take (k + 1) = K ++ [⟨st, 3, g⟩]) := by rw [Hid, HNX2, hla, hov]; rfl
            clear HNX2
            go_wp2_with fail
            refine (HHE2.out _ (below_alloc HL.out _)).mono ?_
            rintro e w3 ⟨rfl, hb3⟩
            have HK : Hid (Mk w w3 (.slice av k cv) K wr.heap.size st 1 (fun _ => 0)) := Mk.later ⟨heap_alloc_new _ _, by rw [HLK.out]; exact HO.out.alloc _, HON.out, hsz, below_alloc HL.out _⟩ hb3
            clear hb3
            go_wp2_with fail
            refine (HLA2.out _).mono ?_
            rintro e wx ⟨rfl, hx⟩
            rw [hx, hla]
            clear hx wx
            go_wp2_with fail
            refine (HOV2.out _).mono ?_
            rintro e wx ⟨rfl, hx⟩
            rw [hx, hov]
            clear hx wx
            have hcm := (en_cells HK.out.e).2.1
            have hfm := frozen_at HK.out.e 1
            go_wp2_with fail
            refine (HSG2.out _ (HK.out.mark 2).b).mono ?_
            rintro e w4 ⟨rfl, hb4⟩
            have HK4 : Hid (Mk w w4 (.slice av k cv) K wr.heap.size st 2 (fun _ => 0)) := (HK.out.mark 2).later hb4
            clear hb4 hcm hfm
            have hz := sgC_size g
            generalize hcs : sgC g = cs at *
            have hst1 := store_sg (P := Try.prog) HK4.out.e hcs.symm
            clear hcs
            have HK5 : Hid (Mk w (w4.setRow wr.heap.size (enC ⟨st, 2, g⟩)) (.slice av k cv) K wr.heap.size st 2 g) := HK4.out.sig g
            generalize w4.setRow wr.heap.size (enC ⟨st, 2, g⟩) = w5 at *
            have hcm := (en_cells HK5.out.e).2.1
            have hfm := frozen_at HK5.out.e 1
            have HK6 : Hid (Mk w (w5.setCell ⟨wr.heap.size, 1, none⟩ (.int .i64 3)) (.slice av k cv) K wr.heap.size st 3 g) := HK5.out.mark 3
            have hl := en_cells HK6.out.e
            have HO6 : Hid (World.ownsRow (w5.setCell ⟨wr.heap.size, 1, none⟩ (.int .i64 3)) w.heap.size 56 10 (.slice av k cv) k (entC K)) := by have := HK6.out.o; rwa [HLK.out] at this
            have hs6 := HK6.out.b.size
            go_wp2_with (at_builtin; refine wpList_append_lies _ rfl _ _ 50 rfl w.heap.size 56 i0 _ 10 80 Try.underlying50 hi hz0 hz1 hz2 rfl (by decide) _ _ _ rfl (HO6.out.alloc _) _ 1 1 (enC ⟨st, 3, g⟩).toList rfl rfl (World.news_of_block (cs := enC ⟨st, 3, g⟩) (t := 56) (fr := (0, 0)) (heap_alloc_at (by first | rfl | simp [World.setCell]))) ?c112 (by decide) ?c113 ?c114 ?c115 _ rfl ?_)
            case c112 => simp [enC, Value.oneCell']
            case c113 => unfold maxLen; omega
            case c114 => omega
            case c115 => first | omega | (simp at *; omega)
            intro gg cap' w7 hown1 hgrow hat _
            have HO7 : Hid (w7.ownsRow w.heap.size 56 10 (.slice (some ⟨gg, 0, none⟩) (k + 1) cap') (K ++ [En.mk st 3 g]).length (entC (K ++ [En.mk st 3 g]))) := by
              rw [Hid, entC_snoc, List.length_append, HLK.out]; exact hown1
            have HB7 : Hid (Below w.heap.size w w7) := (below_alloc HK6.out.b _).grown hgrow (by simp at *; omega) (fun b hb => (own_block HO6.out b hb).1)
            clear hown1 hgrow hat hl
            go_wp2
            go_roundw
            case rel => exact ⟨k + 1, by omega, by go_num, by rw [HNX3.out]; exact HO7.out, HB7.out⟩
            case measure => simp [intOf]; omega
      · obtain rfl : k = mm := by omega
        have hes : es.take k = es := List.take_of_length_le (by rw [HEL.out]; exact Nat.le_refl _)
        rw [hes, HEL.out] at HO
        obtain ⟨av, cv, rfl⟩ := own_slice HO.out
        go_wp2
        go_ret
        exact ⟨_, rfl, by rw [HEL.out]; exact HO.out, HL.out⟩
end Go.Proofs.Ytacioekmeildoaa
