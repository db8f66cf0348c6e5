/- Pairs as they lie, and sorted. -/
import Derived.Test.YtbajgbknjmbimabDiV
import Derived.Test.YtbajgbknjmbimabCoR
import Derived.Test.YtbajgbknjmbimabSort
import Derived.Deep.AppendLies
import Derived.Deep.DrawnRows
import Derived.Deep.RegionHeld3
namespace Go.Proofs.Ytbajgbknjmbimab.Di
open Go.ChangeShapes Go.WideShapes Go.ChangeAt Go.RowKit
open Go.Sort (grow grow_grow alloc_eq_grow HoldsK flatK SWO PermIn SortedIn)
attribute [local go_sem ↓] Go.wp_at_zero Go.wp_at_succ

def cmpI (x y : Int) : Int := if x < y then -1 else if y < x then 1 else 0
theorem cmpI_lt (x y : Int) : cmpI x y < 0 ↔ x < y := by
  unfold cmpI
  split
  · omega
  · split <;> omega
theorem cmp_any (x y : Int) (w : World) : Calls Try.prog 24 #[.int .i64 x, .int .i64 y] w fun e w' => e = .returned (.int .i64 (cmpI x y)) ∧ w' = w := by
  by_cases h1 : x < y
  · go_enter Try.func24, Try.ntmps24
    go_wp2
    go_ret
    exact ⟨by simp [cmpI, h1], rfl⟩
  · by_cases h2 : y < x
    · go_enter Try.func24, Try.ntmps24
      go_wp2
      go_ret
      exact ⟨by simp [cmpI, h1, h2], rfl⟩
    · go_enter Try.func24, Try.ntmps24
      go_wp2
      go_ret
      exact ⟨by unfold cmpI; rw [if_neg (by omega), if_neg (by omega)]; rfl, rfl⟩
def pC (p : Int × Int) : List Value := [.int .i64 p.1, .int .i64 p.2]
theorem grow20 (w : World) (a b : Obj) : (w.alloc a).alloc b = grow (w.drewN 0) #[a, b] := by
  rw [alloc_eq_grow, alloc_eq_grow, grow_grow]; rfl
set_option maxRecDepth 100000 in
theorem closure_any (x y : Int × Int) (w : World) :
    Calls Try.prog 23 #[.agg (pC x).toArray, .agg (pC y).toArray] w fun e w' => e = .returned (.int .i64 (cmpI x.1 y.1)) ∧ ∃ q os, w' = grow (w.drewN q) os := by
  obtain ⟨k, v⟩ := x
  obtain ⟨k', v'⟩ := y
  have HC : Hid (∀ w : World, Calls Try.prog 24 #[.int .i64 k, .int .i64 k'] w fun e w' => e = .returned (.int .i64 (cmpI k k')) ∧ w' = w) := cmp_any k k'
  unfold pC
  simp only
  generalize cmpI k k' = r at *
  go_enter Try.func23, Try.ntmps23
  go_wp2_with fail
  refine (HC.out _).mono ?_
  rintro e w1 ⟨rfl, rfl⟩
  go_wp2
  go_ret
  exact ⟨rfl, 0, _, grow20 _ _ _⟩
def prC (T : List (Int × Int)) : List Value := T.flatMap pC
theorem prC_len (T : List (Int × Int)) : (prC T).length = T.length * 2 := by
  induction T with
  | nil => rfl
  | cons x T ih => simp only [prC, List.flatMap_cons, List.length_append, List.length_cons] at *; rw [ih]; simp [pC]; omega
theorem prC_app (T S : List (Int × Int)) : prC (T ++ S) = prC T ++ prC S := List.flatMap_append
theorem prC_get (T : List (Int × Int)) (i j : Nat) (hi : i < T.length) (hj : j < 2) : (prC T)[i * 2 + j]? = (pC T[i])[j]? := by
  induction T generalizing i with
  | nil => simp at hi
  | cons x T ih =>
    have e : prC (x :: T) = pC x ++ prC T := rfl
    have h8 : (pC x).length = 2 := by simp [pC]
    rw [e]
    cases i with
    | zero =>
      rw [List.getElem?_append_left (by omega)]
      simp
    | succ i =>
      rw [List.getElem?_append_right (by omega), h8, show (i + 1) * 2 + j - 2 = i * 2 + j by omega]
      exact ih i (by simpa using hi)
theorem pC_len (t : Int × Int) : (pC t).length = 2 := rfl
theorem pC_one (t : Int × Int) : ∀ v ∈ pC t, v.oneCell' = true := fun v hv => by
  simp [pC] at hv
  rcases hv with rfl | rfl <;> rfl
theorem flat_get (d : Array (Int × Int)) (t : Nat) (h : t < d.size * 2) : (prC d.toList)[t]? = some ((flatK pC 2 d)[t]!) := by
  have h1 : t / 2 < d.size := by omega
  have h2 : t % 2 < 2 := Nat.mod_lt _ (by decide)
  have e : t = t / 2 * 2 + t % 2 := by omega
  rw [Go.Sort.get_flatK pC 2 d t h]
  conv => lhs; rw [e]
  rw [prC_get d.toList (t / 2) (t % 2) (by simpa using h1) h2]
  have e2 : d[t / 2]! = d.toList[t / 2]'(by simpa using h1) := by simp [h1]
  rw [e2]
  have h3 : t % 2 < (pC (d.toList[t / 2]'(by simpa using h1))).length := by rw [pC_len]; exact h2
  rw [List.getElem?_eq_getElem h3]
  exact congrArg some (getElem!_pos (pC _) (t % 2) h3).symm

def cfP (x y : Int × Int) : Int := cmpI x.1 y.1
theorem ltP (x y : Int × Int) : ltOf cfP x y = decide (x.1 < y.1) := by
  unfold ltOf cfP
  rw [Bool.eq_iff_iff]
  simp [cmpI_lt]
theorem swoP : SWO (ltOf cfP) where
  irrefl x := by rw [ltP]; simp
  trans x y z h1 h2 := by rw [ltP] at *; simp at *; omega
  ntrans x y z h1 h2 := by rw [ltP] at *; simp at *; omega
theorem agg_pair : ∀ w, (isAgg 39).run Try.prog w = .ok true w := fun w => by kernel_rfl
theorem size_pair : ∀ w, (Go.sizeOf 39).run Try.prog w = .ok 2 w := fun w => by kernel_rfl
theorem cmpLays (blk off size : Nat) (w : World) : CmpLays Try.prog 23 #[] pC 2 cfP blk off size w := fun _ _ _ _ x y => closure_any x y _

theorem holds_own {w : World} {base g cap : Nat} {T : List (Int × Int)} (h : w.ownsRow base 39 2 (.slice (some ⟨g, 0, none⟩) T.length cap) T.length (prC T)) : HoldsK pC 2 w g 0 T.toArray := fun j hj => by
  have hj' : j < T.length * 2 := by simpa using hj
  refine ⟨?_, ?_⟩
  · rw [Nat.zero_add]
    have e := flat_get T.toArray j (by simpa using hj')
    exact own_cells h j _ (by simpa using e)
  · rw [Nat.zero_add]
    exact (own_some h j (by omega)).2

theorem heap_grow {w : World} {os : Array Obj} {b : Nat} (h : b < w.heap.size) : (grow w os).heap[b]? = w.heap[b]? := by
  unfold grow; exact Array.getElem?_append_left h
theorem heap_put {w : World} {g : Nat} {d : Array (Int × Int)} {cur : Array Value} {e : TypeId} (h : w.heap[g]? = some (.cells cur e (0, 0))) : (Go.Sort.putRowK pC 2 w g 0 d).heap[g]? = some (.cells (Go.Sort.putCells id 0 (flatK pC 2 d) cur) e (0, 0)) := by
  unfold Go.Sort.putRowK Go.Sort.putRow Go.Sort.mapBlock
  simp [Array.getElem?_modify, h, Go.Sort.onCells]
theorem heap_put_other {w : World} {g b : Nat} {d : Array (Int × Int)} (h : g ≠ b) : (Go.Sort.putRowK pC 2 w g 0 d).heap[b]? = w.heap[b]? := by
  unfold Go.Sort.putRowK Go.Sort.putRow Go.Sort.mapBlock
  simp [Array.getElem?_modify, h]
theorem size_put (w : World) (g : Nat) (d : Array (Int × Int)) : (Go.Sort.putRowK pC 2 w g 0 d).heap.size = w.heap.size := by
  unfold Go.Sort.putRowK Go.Sort.putRow Go.Sort.mapBlock
  simp
theorem sorted_own {w : World} {base g cap n : Nat} {xs : List Value} {d' : Array (Int × Int)} (h : w.ownsRow base 39 2 (.slice (some ⟨g, 0, none⟩) n cap) n xs) (hd : d'.size = n) (m : Nat) (os : Array Obj) :
    (sortWorldK pC 2 w g 0 m d' os).ownsRow base 39 2 (.slice (some ⟨g, 0, none⟩) d'.toList.length cap) d'.toList.length (prC d'.toList) ∧ Keep [g] w (sortWorldK pC 2 w g 0 m d' os) := by
  have hgl : g < w.heap.size := by
    rcases h.2 with ⟨e, _⟩ | ⟨g', cap', cur, e, hb, hg, _⟩
    · cases e
    · simp at e
      rw [e.1]; exact heap_lt hg
  have hsz : ∀ b, b < w.heap.size → b < (Go.Sort.putRowK pC 2 (Go.Sort.ahead w m) g 0 d').heap.size := fun b hb => by rw [size_put]; exact hb
  constructor
  · rcases h.2 with ⟨e, _⟩ | ⟨g', cap', cur, e, hb, hg, h1, h2, h3, h4⟩
    · cases e
    · simp at e
      obtain ⟨rfl, rfl⟩ := e
      have hlen : d'.toList.length = n := by simpa using hd
      rw [hlen]
      refine ⟨by rw [prC_len, hlen], Or.inr ⟨g, cap, Go.Sort.putCells id 0 (flatK pC 2 d') cur, rfl, hb, ?_, h1, h2, by simpa [Go.Sort.putCells] using h3, ?_⟩⟩
      · unfold sortWorldK
        rw [heap_grow (hsz g hgl)]
        exact heap_put hg
      · apply List.ext_getElem?
        intro t
        have h5 : n * 2 ≤ cap * 2 := Nat.mul_le_mul_right _ h1
        rw [List.getElem?_take]
        by_cases ht : t < n * 2
        · rw [if_pos ht, flat_get d' t (by rw [hd]; exact ht)]
          have htc : t < cur.size := by omega
          have hf : t < (flatK pC 2 d').size := by rw [Go.Sort.size_flatK, hd]; exact ht
          simp [Go.Sort.putCells, htc, hd, ht]
        · rw [if_neg ht, List.getElem?_eq_none (by rw [prC_len, hlen]; omega)]
  · refine ⟨rfl, rfl, rfl, ?_, fun b hb hn => ?_⟩
    · unfold sortWorldK grow
      simp only [Array.size_append, size_put]
      exact Nat.le_add_right _ _
    · unfold sortWorldK
      rw [heap_grow (hsz b hb), heap_put_other (fun e => hn (by simp [e]))]
      rfl

theorem perm_list {T : List (Int × Int)} {d' : Array (Int × Int)} (h : PermIn 0 T.length T.toArray d') : d'.size = T.length ∧ d'.toList.Perm T := by
  obtain ⟨h1, _, h3⟩ := h
  have hs : d'.size = T.length := by simpa using h1
  refine ⟨hs, ?_⟩
  have e1 : (d'.extract 0 T.length) = d' := by rw [← hs]; simp
  have e2 : (T.toArray.extract 0 T.length).toList = T := by simp
  rw [e1, e2] at h3
  exact h3

set_option maxRecDepth 10000 in
set_option maxHeartbeats 1600000 in
theorem sort_nil (w : World) : Calls Try.prog 22 #[.slice none 0 0, .func (.func 23) #[] #[]] w fun e w' => e = .returned (.tuple #[]) ∧ w' = w := by
  go_enter Try.func22, Try.ntmps22
  go_wp2
  refine wp_loop_rounds 1 ?_
  rw [rounds_succ]
  go_wp2
  refine wp_loop_rounds 1 ?_
  rw [rounds_succ]
  go_wp2
  first | refine bodyPost_end (results_none rfl _ _ _) rfl ?_ | refine bodyPost_ret (results_none rfl _ _ _) rfl ?_
  go_wp2
  first | refine bodyPost_end (results_none rfl _ _ _) rfl ?_ | refine bodyPost_ret (results_none rfl _ _ _) rfl ?_
  go_wp2
  first | refine bodyPost_end (results_none rfl _ _ _) rfl ?_ | refine bodyPost_ret (results_none rfl _ _ _) rfl ?_
  exact ⟨rfl, rfl⟩

theorem sort_any {w : World} {base : Nat} {v : Value} {T : List (Int × Int)} (h : w.ownsRow base 39 2 v T.length (prC T)) (hT : T.length < 4611686018427387904) :
    Calls Try.prog 22 #[v, .func (.func 23) #[] #[]] w fun e w' => e = .returned (.tuple #[]) ∧ ∃ T', T'.Perm T ∧ (∀ i j, (hi : i < j) → (hj : j < T'.length) → ¬ (T'[j]).1 < (T'[i]).1) ∧ w'.ownsRow base 39 2 v T'.length (prC T') ∧ Keep v.ownBlock.toList w w' := by
  rcases h.2 with ⟨e, hn⟩ | ⟨g, cap, cur, e, _, hg, _⟩
  · obtain rfl : T = [] := List.length_eq_zero_iff.1 hn
    rw [e]
    refine (sort_nil w).mono ?_
    rintro e' w' ⟨rfl, rfl⟩
    exact ⟨rfl, [], List.Perm.refl _, fun i j _ hj => by simp at hj, World.ownsRow_nil _ _ _ _, Keep.refl _ _⟩
  · subst e
    have hgl := heap_lt hg
    have eg : ∀ args w, (callFunc 23 args).run Try.prog w = .ok (.enter 23 args) w := enters_of Try.func23 (by kernel_rfl) rfl
    have hcon := AnyQ.slices_SortFunc Try.sortTo 2 agg_pair size_pair pC pC_len pC_one cfP swoP 23 #[] g 0 cap T.toArray w eg (cmpLays g 0 _ w) (holds_own h) hgl (by simpa using hT)
    refine hcon.mono ?_
    rintro e w' ⟨rfl, d', n, os, hp, hs, rfl⟩
    have hsz : T.toArray.size = T.length := by simp
    rw [hsz] at hp hs
    obtain ⟨hd, hperm⟩ := perm_list hp
    obtain ⟨o1, k1⟩ := sorted_own h hd n os
    refine ⟨rfl, d'.toList, hperm, fun i j hi hj => ?_, ?_, k1⟩
    · have hj' : j < T.length := by simpa [hd] using hj
      have := hs i j (Nat.zero_le _) hi hj'
      rw [ltP] at this
      have e1 : d'[j]! = d'.toList[j] := by simp [hd, hj']
      have e2 : d'[i]! = d'.toList[i]'(by omega) := by simp [hd, show i < T.length by omega]
      rw [e1, e2] at this
      simpa using this
    · have : d'.toList.length = T.length := by simpa using hd
      rw [this] at o1 ⊢
      exact o1
theorem ris_of {T Z : List (Int × Int)} (hp : T.Perm Z) (hz : Ris Z) (hs : ∀ i j, (hi : i < j) → (hj : j < T.length) → ¬ (T[j]).1 < (T[i]'(by omega)).1) : T = Z := by
  refine ris_eq hp ?_ hz
  have h1 : Z.Pairwise (fun a b => a.1 ≠ b.1) := hz.imp (fun h e => by omega)
  have h2 : T.Pairwise (fun a b => a.1 ≠ b.1) := hp.symm.pairwise h1 (fun h e => h e.symm)
  rw [List.pairwise_iff_getElem] at h2
  unfold Ris
  rw [List.pairwise_iff_getElem]
  intro i j hi hj hij
  have h3 := h2 i j hi hj hij
  have h4 := hs i j hij hj
  omega
/-- What is sorted by keys that are unlike is one list. -/
theorem sort_to {w : World} {base : Nat} {v : Value} {T Z : List (Int × Int)} (h : w.ownsRow base 39 2 v T.length (prC T)) (hT : T.length ≤ 16) (hp : Z.Perm T) (hz : Ris Z) :
    Calls Try.prog 22 #[v, .func (.func 23) #[] #[]] w fun e w' => e = .returned (.tuple #[]) ∧ w'.ownsRow base 39 2 v Z.length (prC Z) ∧ Keep v.ownBlock.toList w w' := by
  refine (sort_any h (by omega)).mono ?_
  rintro e w' ⟨he, T', h1, h2, h3, h4⟩
  obtain rfl : T' = Z := ris_of (h1.trans hp.symm) hz h2
  exact ⟨he, h3, h4⟩
end Go.Proofs.Ytbajgbknjmbimab.Di
