/- The document's Shape: the nodes of one row, with marks. -/
import Derived.Test.YtaffkcliepfcmaaChSd
import Derived.Test.YtaffkcliepfcmaaChG
import Derived.Deep.LoopGhost
namespace Go.Proofs.Ytaffkcliepfcmaa.Ch
open Go.ChangeShapes Go.WideShapes Go.ChangeAt Go.RowKit
attribute [local go_sem ↓] Go.wp_at_zero Go.wp_at_succ

def bC (S : List Bool) : Array Value := (S.map Value.bool).toArray
abbrev bO (S : List Bool) : Obj := .cells (bC S) 4 (0, 0)
theorem bC_get {S : List Bool} {i : Nat} (h : i < S.length) : (bC S)[i]? = some (.bool (S.getD i true)) := by
  simp [bC, h, List.getD]
theorem bC_set {S : List Bool} {i : Nat} : (bC S).setIfInBounds i (.bool true) = bC (S.set i true) := by
  apply Array.toList_inj.1
  simp [bC, List.map_set]
theorem bC_ne {S : List Bool} {i : Nat} {k : Int} (h : (bC S)[i]? = some (.int .i64 k)) : False := by
  simp [bC] at h
theorem cell_blk {w w' : World} {a : Addr} (h : w'.heap[a.block]? = w.heap[a.block]?) : w'.cell? a = w.cell? a := by
  unfold World.cell?
  rw [h]
def RwP (w : World) (B u : Nat) (S : List Bool) (t : Option (List Nat)) (e : Ending) (w' : World) : Prop :=
  Keep [B] w w' ∧ ∃ S', w'.heap[B]? = some (bO S') ∧ S'.length = u + 1 ∧ ((t = none ∧ e = .returned (.tuple #[.slice none 0 0, .bool false])) ∨ ∃ L v, t = some L ∧ S' = mkS S L ∧ e = .returned (.tuple #[v, .bool true]) ∧ w'.ownsRow w.heap.size 3 1 v L.length (inC L))
set_option maxRecDepth 100000 in
set_option maxHeartbeats 1000000 in
theorem row_any {w : World} {u n B : Nat} {link : Int} {vc : Value} {C : List Int} {S : List Bool} (hv : Nl w vc C) (hC : C.length = 2 * n + 3) (hu : u ≤ n) (hn : n ≤ 16) (hS : S.length = u + 1) (hB : w.heap[B]? = some (bO S)) : Calls Try.prog 29 #[vc, .int .i64 link, .int .i64 (u : Int), .slice (some ⟨B, 0, none⟩) (u + 1) (u + 1)] w (RwP w B u S (rv C u (u + 1) link S)) := by
  have HL : Hid (∀ (w : World) (p : Int), Calls Try.prog 44 #[.int .i64 p, .int .i64 (u : Int)] w fun e w' => e = .returned (.int .i64 (leadV p u)) ∧ w' = w) := fun w p => rleads_any w p u
  have HN : Hid (∀ (w : World) (i : Nat), i ≤ 16 → Calls Try.prog 45 #[.int .i64 (i : Int)] w fun e w' => e = .returned (.int .i64 ((nx i : Nat) : Int)) ∧ w' = w) := fun w i h => by have := rlink_any w (i := (i : Int)) (by omega); rw [nxt_int] at this; exact this
  obtain ⟨a, cap, rfl⟩ := nl_slice hv
  obtain ⟨_, _, hcell⟩ := nl_cells hv
  obtain ⟨i0, hi, hz0, hz1, hz2⟩ := info_parts info_int
  obtain ⟨x, rfl, hxb, hx1⟩ := hcell 1 (by omega)
  have hxB : x.block ≠ B := fun e => by
    rw [add_pos' _ _ (by decide), e, cell_at hB] at hx1
    exact bC_ne hx1
  have HC : Hid (∀ i, i < C.length → ∀ w' : World, Keep [B] w w' → w'.cell? (x.add i) = some (.int .i64 (nth C i))) := fun i hi w' hk => by
    obtain ⟨y, hy, hyb, hyc⟩ := hcell i hi
    injection hy with hy
    subst hy
    have h9 := hk.block x.block hxb (by simpa using hxB)
    rw [← hyc]
    exact cell_blk (by rw [add_block]; exact h9)
  have HB : Hid (C.length = 2 * n + 3 ∧ u ≤ n ∧ n ≤ 16) := ⟨hC, hu, hn⟩
  obtain ⟨t, ht⟩ : ∃ t, rv C u (u + 1) link S = t := ⟨_, rfl⟩
  rw [ht]
  have HT : Hid ((rv C u (u + 1) link S).map ([] ++ ·) = t) := by rw [Hid, ← ht]; simp
  have HBS : Hid (w.heap[B]? = some (bO S) ∧ S.length = u + 1) := ⟨hB, hS⟩
  clear hv hcell hu hn ht hB hS hC
  go_enter Try.func29, Try.ntmps29
  go_wp2_with fail
  go_loopg [1, 10] (u + 2) (fun gh lv ov wr => ∃ (M : List Nat) (f : Nat) (lk : Int) (T : List Bool), f + 1 = gh ∧ M.length + unm T ≤ 17 ∧ unm T ≤ f ∧ lv = .int .i64 lk ∧ wr.ownsRow w.heap.size 3 1 ov M.length (inC M) ∧ Keep [B] w wr ∧ wr.heap[B]? = some (bO T) ∧ T.length = u + 1 ∧ T = mkS S M ∧ (rv C u f lk T).map (M ++ ·) = t)
  case atStart => exact ⟨[], u + 1, link, S, rfl, by have := unm_le S; have := HBS.out.2; have := HB.out; simp; omega, by have := unm_le S; have := HBS.out.2; omega, rfl, World.ownsRow_nil _ _ _ _, Keep.refl _ _, HBS.out.1, HBS.out.2, rfl, HT.out⟩
  case round =>
    obtain ⟨M, f, lk, T, rfl, hMf, hun, rfl, hown, hkp, hTB, hTl, hTM, hres⟩ := hrel
    have HO : Hid (wr.ownsRow w.heap.size 3 1 u10 M.length (inC M)) := hown
    have HKP : Hid (Keep [B] w wr) := hkp
    have HTB : Hid (wr.heap[B]? = some (bO T) ∧ T.length = u + 1 ∧ T = mkS S M) := ⟨hTB, hTl, hTM⟩
    have hsz : w.heap.size ≤ wr.heap.size := hkp.size
    clear hown hkp hTB hTM HT
    by_cases h0 : lk = 0
    · subst h0
      have HR : Hid (t = some M) := by rw [Hid, ← hres]; cases f <;> simp [rv]
      clear hres hMf hun
      go_wp2_with fail
      go_ret2
      exact ⟨HKP.out, T, HTB.out.1, HTB.out.2.1, Or.inr ⟨M, _, HR.out, HTB.out.2.2, rfl, HO.out⟩⟩
    · have d0 : (lk == 0) = false := by simpa using h0
      have HL1 : Hid (∀ w : World, Calls Try.prog 44 #[.int .i64 lk, .int .i64 (u : Int)] w fun e w' => e = .returned (.int .i64 (leadV lk u)) ∧ w' = w) := fun w => HL.out w lk
      by_cases hl : leadV lk u = 0
      · have HR : Hid (t = none) := by rw [Hid, ← hres]; cases f <;> simp [rv, h0, hl]
        rw [hl] at HL1
        clear hres hMf hun HL h0 hl
        go_wp2_with fail
        refine (HL1.out _).mono ?_
        rintro e w1 ⟨rfl, hw1⟩
        obtain rfl := hw1.symm
        clear hw1
        go_wp2_with fail
        go_ret2
        exact ⟨HKP.out, T, HTB.out.1, HTB.out.2.1, Or.inl ⟨HR.out, rfl⟩⟩
      · obtain ⟨e1, e2, e3⟩ := lead_nat hl
        obtain ⟨i, hi9⟩ : ∃ i, (leadV lk u).toNat = i := ⟨_, rfl⟩
        rw [hi9] at e1 e2 e3
        have hli : leadV lk u = (i : Int) := by obtain ⟨q1, q2⟩ := lead_of hl; omega
        rw [hli] at HL1
        have dz : ((i : Int) == 0) = false := by simp; omega
        have dzn : (i == 0) = false := by simp; omega
        have hiT : i < u + 1 := by omega
        have hcT : wr.cell? ⟨B, i, none⟩ = some (.bool (T.getD i true)) := by rw [cell_at HTB.out.1, bC_get (by omega)]
        have hBl : B < wr.heap.size := heap_lt HTB.out.1
        cases hm : T.getD i true with
        | true =>
          have HR : Hid (t = none) := by
            rw [Hid, ← hres]
            cases f with
            | zero => simp [rv, h0]
            | succ f => rw [rv, if_neg h0, if_pos (Or.inr (by rw [hi9]; exact hm))]; rfl
          rw [hm] at hcT
          clear hres hMf hun HL h0 hl hli hi9 hm e1
          go_wp2_with fail
          refine (HL1.out _).mono ?_
          rintro e w1 ⟨rfl, hw1⟩
          obtain rfl := hw1.symm
          clear hw1
          go_wp2_with fail
          go_ret2
          exact ⟨HKP.out, T, HTB.out.1, HTB.out.2.1, Or.inl ⟨HR.out, rfl⟩⟩
        | false =>
          have hset : unm (T.set i true) + 1 = unm T := unm_set (by omega) hm
          cases f with
          | zero => omega
          | succ f =>
            have HR : Hid ((rv C u f (nth C (nx i)) (T.set i true)).map ((M ++ [i]) ++ ·) = t) := by
              have : (rv C u f (nth C (nx i)) (T.set i true)).map ((M ++ [i]) ++ ·) = t := (by
                rw [← hres, rv, if_neg h0, if_neg (by rw [hi9, hm]; simp [hl]), hi9]
                cases rv C u f (nth C (nx i)) (T.set i true) <;> simp)
              exact this
            have HQ : Hid (nx i < C.length ∧ M.length ≤ 100 ∧ (M ++ [i]).length + unm (T.set i true) ≤ 17 ∧ unm (T.set i true) ≤ f) := by
              have := HB.out
              have hq : nx i < C.length := by unfold nx; omega
              exact ⟨hq, by omega, by simp; omega, by omega⟩
            have hM : M.length ≤ 100 := HQ.out.2.1
            have hq : nx i < C.length := HQ.out.1
            have HNX : Hid (∀ w : World, Calls Try.prog 45 #[.int .i64 (i : Int)] w fun e w' => e = .returned (.int .i64 ((nx i : Nat) : Int)) ∧ w' = w) := fun w => HN.out w i (by have := HB.out; omega)
            have HXC : Hid (∀ w' : World, Keep [B] w w' → w'.cell? (x.add (nx i)) = some (.int .i64 (nth C (nx i)))) := HC.out (nx i) hq
            have hfz : wr.frozen? ⟨B, i, none⟩ = false := frozen_at HTB.out.1 i
            rw [hm] at hcT
            have HK2 : Hid (Keep [B] w (wr.setCell ⟨B, i, none⟩ (.bool true)) ∧ (wr.setCell ⟨B, i, none⟩ (.bool true)).heap[B]? = some (bO (T.set i true)) ∧ (T.set i true).length = u + 1 ∧ T.set i true = mkS S (M ++ [i])) := by
              refine ⟨HKP.out.setCell _ _ (Or.inl (by simp)), ?_, by simp; exact hTl, ?_⟩
              · rw [heap_set HTB.out.1, bC_set]
              · rw [HTB.out.2.2]
                simp [mkS, List.foldl_append]
            have HO1 : Hid ((wr.setCell ⟨B, i, none⟩ (.bool true)).ownsRow w.heap.size 3 1 u10 M.length (inC M)) := own_keep HO.out ((Keep.refl [B] wr).setCell _ _ (Or.inl (by simp))) (fun b hb => by simp; exact fun e => own_ne HO.out HTB.out.1 (by decide) (by rw [hb, e]))
            have HSZ : Hid ((wr.setCell ⟨B, i, none⟩ (.bool true)).heap.size = wr.heap.size) := by simp [Hid, World.setCell]
            have HNB : Hid (u10.ownBlock ≠ some B) := own_ne HO.out HTB.out.1 (by decide)
            generalize nth C (nx i) = l1 at *
            generalize nx i = q at *
            clear hres HL h0 hl hli hi9 hMf hun hm HN e1 hset HC
            obtain ⟨va, vc, rfl⟩ := own_slice HO.out
            go_wp2_with fail
            refine (HL1.out _).mono ?_
            rintro e w1 ⟨rfl, hw1⟩
            obtain rfl := hw1.symm
            clear hw1
            go_wp2_with (at_builtin; refine list_lies_wide _ rfl _ _ 63 rfl w.heap.size 3 i0 _ 1 8 Try.underlying63 hi hz0 hz1 hz2 rfl (by decide) _ _ _ rfl (HO1.out.alloc _) ⟨wr.heap.size, 0, none⟩ 1 1 [.int .i64 (i : Int)] rfl rfl (World.news_of_block (cs := #[.int .i64 (i : Int)]) (t := 3) (fr := (0, 0)) (by rw [← HSZ.out]; exact heap_alloc_new _ _)) (by intro u hu; simp at hu; subst hu; rfl) (by decide) (by unfold maxLen; omega) (by omega) (by have := HSZ.out; simp; omega) _ rfl ?_)
            intro g cp w2 hown' hgrow _ _
            have HO2 : Hid (w2.ownsRow w.heap.size 3 1 (.slice (some ⟨g, 0, none⟩) (M.length + 1) cp) (M ++ [i]).length (inC (M ++ [i]))) := by rw [Hid, inC_snoc, List.length_append]; exact hown'
            have HB2 : Hid (Keep [B] w w2) := (HK2.out.1.alloc _).grown hgrow (fun b hb => Or.inr (own_block HO.out b hb).1)
            have HR2 : Hid (w2.heap[B]? = some (bO (T.set i true))) := by
              rw [Hid, hgrow.block _ (by have := HSZ.out; simp; omega) (fun e => HNB.out e.symm), Below.heap_alloc _ _ _ (by have := HSZ.out; omega)]
              exact HK2.out.2.1
            have z1 : w2.cell? (x.add q) = some (.int .i64 l1) := HXC.out w2 HB2.out
            clear hown' hgrow HO HO1 hcT hfz
            go_wp2_with fail
            refine (HNX.out _).mono ?_
            rintro e w3 ⟨rfl, hw3⟩
            obtain rfl := hw3.symm
            clear hw3
            go_wp2_with fail
            go_roundg (f + 1)
            case rel => exact ⟨M ++ [i], f, l1, T.set i true, rfl, HQ.out.2.2.1, HQ.out.2.2.2, rfl, HO2.out, HB2.out, HR2.out, HK2.out.2.2.1, HK2.out.2.2.2, HR.out⟩
            case measure => omega
end Go.Proofs.Ytaffkcliepfcmaa.Ch
