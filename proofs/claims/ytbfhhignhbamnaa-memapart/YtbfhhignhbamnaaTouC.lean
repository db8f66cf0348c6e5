/- Touches that are sorted. -/
import Derived.Test.YtbfhhignhbamnaaTouB
namespace Go.Proofs.Ytbfhhignhbamnaa
open Go.ChangeShapes Go.WideShapes Go.ChangeAt Go.RowKit
open Go.Sort (grow grow_grow alloc_eq_grow HoldsK flatK SWO PermIn SortedIn)

def touC (T : List To) : List Value := T.flatMap toC
theorem touC_len (T : List To) : (touC T).length = T.length * 6 := by
  induction T with
  | nil => rfl
  | cons x T ih => simp only [touC, List.flatMap_cons, List.length_append, List.length_cons] at *; rw [ih]; simp [toC]; omega
theorem touC_app (T S : List To) : touC (T ++ S) = touC T ++ touC S := List.flatMap_append
theorem touC_get (T : List To) (i j : Nat) (hi : i < T.length) (hj : j < 6) : (touC T)[i * 6 + j]? = (toC T[i])[j]? := by
  induction T generalizing i with
  | nil => simp at hi
  | cons x T ih =>
    have e : touC (x :: T) = toC x ++ touC T := rfl
    have h8 : (toC x).length = 6 := by simp [toC]
    rw [e]
    cases i with
    | zero =>
      rw [List.getElem?_append_left (by omega)]
      simp
    | succ i =>
      rw [List.getElem?_append_right (by omega), h8, show (i + 1) * 6 + j - 6 = i * 6 + j by omega]
      exact ih i (by simpa using hi)
theorem toC_len (t : To) : (toC t).length = 6 := rfl
theorem toC_one (t : To) : ∀ v ∈ toC t, v.oneCell' = true := fun v hv => by
  simp [toC] at hv
  rcases hv with rfl | rfl | rfl | rfl | rfl | rfl <;> rfl
theorem flat_get (d : Array To) (t : Nat) (h : t < d.size * 6) : (touC d.toList)[t]? = some ((flatK toC 6 d)[t]!) := by
  have h1 : t / 6 < d.size := by omega
  have h2 : t % 6 < 6 := Nat.mod_lt _ (by decide)
  have e : t = t / 6 * 6 + t % 6 := by omega
  rw [Go.Sort.get_flatK toC 6 d t h]
  conv => lhs; rw [e]
  rw [touC_get d.toList (t / 6) (t % 6) (by simpa using h1) h2]
  have e2 : d[t / 6]! = d.toList[t / 6]'(by simpa using h1) := by simp [h1]
  rw [e2]
  have h3 : t % 6 < (toC (d.toList[t / 6]'(by simpa using h1))).length := by rw [toC_len]; exact h2
  rw [List.getElem?_eq_getElem h3]
  exact congrArg some (getElem!_pos (toC _) (t % 6) h3).symm

def cfT (x y : To) : Int := cmpAd x.a y.a
theorem ltT (x y : To) : ltOf cfT x y = ahead x.a y.a := by unfold ltOf cfT; exact cmpAd_lt _ _
theorem swoT : SWO (ltOf cfT) where
  irrefl x := by rw [ltT]; exact ahead_irrefl _
  trans x y z h1 h2 := by rw [ltT] at *; exact ahead_trans h1 h2
  ntrans x y z h1 h2 := by
    rw [ltT] at *
    cases h : ahead x.a z.a with
    | false => rfl
    | true =>
      by_cases e : x.a = y.a
      · rw [← e, h] at h2; exact h2
      · have h3 := ahead_total h1 e
        have h4 := ahead_trans h3 h
        rw [h4] at h2; exact h2
theorem agg_touch : ∀ w, (isAgg 73).run Try.prog w = .ok true w := fun w => by kernel_rfl
theorem size_touch : ∀ w, (Go.sizeOf 73).run Try.prog w = .ok 6 w := fun w => by kernel_rfl
theorem cmpLays (blk off size : Nat) (w : World) : CmpLays Try.prog 35 #[] toC 6 cfT blk off size w := fun _ _ _ _ x y => closure_any x y _

theorem holds_own {w : World} {base g cap : Nat} {T : List To} (h : w.ownsRow base 73 6 (.slice (some ⟨g, 0, none⟩) T.length cap) T.length (touC T)) : HoldsK toC 6 w g 0 T.toArray := fun j hj => by
  have hj' : j < T.length * 6 := by simpa using hj
  refine ⟨?_, ?_⟩
  · rw [Nat.zero_add]
    have e := flat_get T.toArray j (by simpa using hj')
    exact own_cells h j _ (by simpa using e)
  · rw [Nat.zero_add]
    exact (own_some h j (by omega)).2

theorem heap_grow {w : World} {os : Array Obj} {b : Nat} (h : b < w.heap.size) : (grow w os).heap[b]? = w.heap[b]? := by
  unfold grow; exact Array.getElem?_append_left h
theorem heap_put {w : World} {g : Nat} {d : Array To} {cur : Array Value} {e : TypeId} (h : w.heap[g]? = some (.cells cur e (0, 0))) : (Go.Sort.putRowK toC 6 w g 0 d).heap[g]? = some (.cells (Go.Sort.putCells id 0 (flatK toC 6 d) cur) e (0, 0)) := by
  unfold Go.Sort.putRowK Go.Sort.putRow Go.Sort.mapBlock
  simp [Array.getElem?_modify, h, Go.Sort.onCells]
theorem heap_put_other {w : World} {g b : Nat} {d : Array To} (h : g ≠ b) : (Go.Sort.putRowK toC 6 w g 0 d).heap[b]? = w.heap[b]? := by
  unfold Go.Sort.putRowK Go.Sort.putRow Go.Sort.mapBlock
  simp [Array.getElem?_modify, h]
theorem size_put (w : World) (g : Nat) (d : Array To) : (Go.Sort.putRowK toC 6 w g 0 d).heap.size = w.heap.size := by
  unfold Go.Sort.putRowK Go.Sort.putRow Go.Sort.mapBlock
  simp
theorem sorted_own {w : World} {base g cap n : Nat} {xs : List Value} {d' : Array To} (h : w.ownsRow base 73 6 (.slice (some ⟨g, 0, none⟩) n cap) n xs) (hd : d'.size = n) (m : Nat) (os : Array Obj) :
    (sortWorldK toC 6 w g 0 m d' os).ownsRow base 73 6 (.slice (some ⟨g, 0, none⟩) d'.toList.length cap) d'.toList.length (touC d'.toList) ∧ Keep [g] w (sortWorldK toC 6 w g 0 m d' os) := by
  have hgl : g < w.heap.size := by
    rcases h.2 with ⟨e, _⟩ | ⟨g', cap', cur, e, hb, hg, _⟩
    · cases e
    · simp at e
      rw [e.1]; exact heap_lt hg
  have hsz : ∀ b, b < w.heap.size → b < (Go.Sort.putRowK toC 6 (Go.Sort.ahead w m) g 0 d').heap.size := fun b hb => by rw [size_put]; exact hb
  constructor
  · rcases h.2 with ⟨e, _⟩ | ⟨g', cap', cur, e, hb, hg, h1, h2, h3, h4⟩
    · cases e
    · simp at e
      obtain ⟨rfl, rfl⟩ := e
      have hlen : d'.toList.length = n := by simpa using hd
      rw [hlen]
      refine ⟨by rw [touC_len, hlen], Or.inr ⟨g, cap, Go.Sort.putCells id 0 (flatK toC 6 d') cur, rfl, hb, ?_, h1, h2, by simpa [Go.Sort.putCells] using h3, ?_⟩⟩
      · unfold sortWorldK
        rw [heap_grow (hsz g hgl)]
        exact heap_put hg
      · apply List.ext_getElem?
        intro t
        have h5 : n * 6 ≤ cap * 6 := Nat.mul_le_mul_right _ h1
        rw [List.getElem?_take]
        by_cases ht : t < n * 6
        · rw [if_pos ht, flat_get d' t (by rw [hd]; exact ht)]
          have htc : t < cur.size := by omega
          have hf : t < (flatK toC 6 d').size := by rw [Go.Sort.size_flatK, hd]; exact ht
          simp [Go.Sort.putCells, htc, hd, ht]
        · rw [if_neg ht, List.getElem?_eq_none (by rw [touC_len, hlen]; omega)]
  · refine ⟨rfl, rfl, rfl, ?_, fun b hb hn => ?_⟩
    · unfold sortWorldK grow
      simp only [Array.size_append, size_put]
      exact Nat.le_add_right _ _
    · unfold sortWorldK
      rw [heap_grow (hsz b hb), heap_put_other (fun e => hn (by simp [e]))]
      rfl

theorem perm_list {T : List To} {d' : Array To} (h : PermIn 0 T.length T.toArray d') : d'.size = T.length ∧ d'.toList.Perm T := by
  obtain ⟨h1, _, h3⟩ := h
  have hs : d'.size = T.length := by simpa using h1
  refine ⟨hs, ?_⟩
  have e1 : (d'.extract 0 T.length) = d' := by rw [← hs]; simp
  have e2 : (T.toArray.extract 0 T.length).toList = T := by simp
  rw [e1, e2] at h3
  exact h3

set_option maxRecDepth 10000 in
set_option maxHeartbeats 1600000 in
theorem sort_nil (w : World) : Calls Try.prog 34 #[.slice none 0 0, .func (.func 35) #[] #[]] w fun e w' => e = .returned (.tuple #[]) ∧ w' = w := by
  go_enter Try.func34, Try.ntmps34
  go_wp2
  refine wp_loop_rounds 1 ?_
  rw [rounds_succ]
  go_wp2
  refine wp_loop_rounds 1 ?_
  rw [rounds_succ]
  go_wp2
  first | refine bodyPost_end (results_none rfl _ _ _) rfl ?_ | refine bodyPost_ret (results_none rfl _ _ _) rfl ?_
  go_wp2
  first | refine bodyPost_end (results_none rfl _ _ _) rfl ?_ | refine bodyPost_ret (results_none rfl _ _ _) rfl ?_
  go_wp2
  first | refine bodyPost_end (results_none rfl _ _ _) rfl ?_ | refine bodyPost_ret (results_none rfl _ _ _) rfl ?_
  exact ⟨rfl, rfl⟩

theorem sort_any {w : World} {base : Nat} {v : Value} {T : List To} (h : w.ownsRow base 73 6 v T.length (touC T)) (hT : T.length < 4611686018427387904) :
    Calls Try.prog 34 #[v, .func (.func 35) #[] #[]] w fun e w' => e = .returned (.tuple #[]) ∧ ∃ T', T'.Perm T ∧ (∀ i j, (hi : i < j) → (hj : j < T'.length) → ahead (T'[j]).a (T'[i]).a = false) ∧ w'.ownsRow base 73 6 v T'.length (touC T') ∧ Keep v.ownBlock.toList w w' := by
  rcases h.2 with ⟨e, hn⟩ | ⟨g, cap, cur, e, _, hg, _⟩
  · obtain rfl : T = [] := List.length_eq_zero_iff.1 hn
    rw [e]
    refine (sort_nil w).mono ?_
    rintro e' w' ⟨rfl, rfl⟩
    exact ⟨rfl, [], List.Perm.refl _, fun i j _ hj => by simp at hj, World.ownsRow_nil _ _ _ _, Keep.refl _ _⟩
  · subst e
    have hgl := heap_lt hg
    have eg : ∀ args w, (callFunc 35 args).run Try.prog w = .ok (.enter 35 args) w := enters_of Try.func35 (by kernel_rfl) rfl
    have hcon := AnyQ.slices_SortFunc Try.sortTo 6 agg_touch size_touch toC toC_len toC_one cfT swoT 35 #[] g 0 cap T.toArray w eg (cmpLays g 0 _ w) (holds_own h) hgl (by simpa using hT)
    refine hcon.mono ?_
    rintro e w' ⟨rfl, d', n, os, hp, hs, rfl⟩
    have hsz : T.toArray.size = T.length := by simp
    rw [hsz] at hp hs
    obtain ⟨hd, hperm⟩ := perm_list hp
    obtain ⟨o1, k1⟩ := sorted_own h hd n os
    refine ⟨rfl, d'.toList, hperm, fun i j hi hj => ?_, ?_, k1⟩
    · have hj' : j < T.length := by simpa [hd] using hj
      have := hs i j (Nat.zero_le _) hi hj'
      rw [ltT] at this
      have e1 : d'[j]! = d'.toList[j] := by simp [hd, hj']
      have e2 : d'[i]! = d'.toList[i]'(by omega) := by simp [hd, show i < T.length by omega]
      rw [e1, e2] at this
      exact this
    · have : d'.toList.length = T.length := by simpa using hd
      rw [this] at o1 ⊢
      exact o1
end Go.Proofs.Ytbfhhignhbamnaa
