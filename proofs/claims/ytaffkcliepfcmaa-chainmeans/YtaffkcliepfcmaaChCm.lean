/- A chain over cells, as numbers: the cells that say rising keys, and each call over them. -/
import Derived.Test.YtaffkcliepfcmaaChC
import Derived.Test.YtaffkcliepfcmaaChCl
namespace Go.Proofs.Ytaffkcliepfcmaa.Ch
open Go.ChangeShapes Go.WideShapes Go.ChangeAt Go.RowKit

/-- The way to a key. -/
def wayV (C : List Int) (k : Int) : Nat → List Nat → Wy
  | c, [] => ⟨c, 0, false, 0, 0⟩
  | c, i :: l => if k ≤ nth C (ky i) then ⟨c, i, true, i, nth C (ky i)⟩ else wayV C k (nx i) l
theorem run_read {c : Int} {g : Int → T} {C : List Int} : runT (readT 0 c g) C = runT (g (nth C c.toNat)) C := by
  simp [readT, runT, readW]
theorem run_put {c z : Int} {t : T} {C : List Int} : runT (putT 0 c z t) C = runT t (C.set c.toNat z) := by
  simp [putT, runT, putW]
theorem run_go {n : Nat} {C : List Int} {k : Int} {h : Wy → T} : ∀ (L : List Nat) (f c : Nat), L.length ≤ f → nth C c = hd L → Lk C L → (∀ i ∈ L, 1 ≤ i ∧ i ≤ n) → runT (goT 0 n k h f (c : Int)) C = runT (h (wayV C k c L)) C := by
  intro L
  induction L with
  | nil =>
    intro f c _ hc _ _
    cases f with
    | zero => rw [goT, run_read, Int.toNat_natCast, hc]; rfl
    | succ f => rw [goT, run_read, Int.toNat_natCast, hc]; simp [hd, lead_0, wayV]
  | cons i l ih =>
    intro f c hf hc hl hn
    obtain ⟨f, rfl⟩ : ∃ m, f = m + 1 := ⟨f - 1, by simp at hf; omega⟩
    have hi := hn i (by simp)
    have hc' : nth C c = (i : Int) := hc
    rw [goT, run_read, Int.toNat_natCast, hc', lead_node hi, if_neg (by omega), run_read, key_nat]
    by_cases hk : k ≤ nth C (ky i)
    · rw [if_pos hk]; simp [wayV, hk]
    · rw [if_neg hk, nxt_int, ih f (nx i) (by simp at hf; omega) hl.1 hl.2 (fun j hj => hn j (by simp [hj]))]
      simp [wayV, hk]
theorem run_cnt {n : Nat} {C : List Int} : ∀ (L : List Nat) (f c : Nat) (i : Int), L.length ≤ f → nth C c = hd L → Lk C L → (∀ j ∈ L, 1 ≤ j ∧ j ≤ n) → runT (cntT 0 n f (c : Int) i) C = (C, i + L.length, 0) := by
  intro L
  induction L with
  | nil =>
    intro f c i _ hc _ _
    cases f with
    | zero => rw [cntT, run_read]; simp [doneT, runT, endW]
    | succ f => rw [cntT, run_read, Int.toNat_natCast, hc]; simp [hd, lead_0, doneT, runT, endW]
  | cons j l ih =>
    intro f c i hf hc hl hn
    obtain ⟨f, rfl⟩ : ∃ m, f = m + 1 := ⟨f - 1, by simp at hf; omega⟩
    have hj := hn j (by simp)
    have hc' : nth C c = (j : Int) := hc
    rw [cntT, run_read, Int.toNat_natCast, hc', lead_node hj, if_neg (by omega), nxt_int, ih f (nx j) (i + 1) (by simp at hf; omega) hl.1 hl.2 (fun q hq => hn q (by simp [hq]))]
    simp only [List.length_cons]
    congr 2
    omega
theorem run_kb {n : Nat} {C : List Int} (L : List Nat) (hn : ∀ j ∈ L, 1 ≤ j ∧ j ≤ n) : runT (kbT 0 n (hd L)) C = (match L with | [] => (C, 0, 1) | i :: _ => (C, nth C (ky i), 0)) := by
  cases L with
  | nil => simp [hd, kbT, lead_0, refT, runT, endW]
  | cons i l =>
    simp only [hd]
    unfold kbT
    have hi := hn i (by simp)
    rw [lead_node hi, if_neg (by omega), run_read, key_nat]
    simp [doneT, runT, endW]
/-- The way parts the nodes: those ahead of the key, and the others. -/
def fore (C : List Int) (k : Int) (L : List Nat) : List Nat := L.takeWhile (fun i => decide (nth C (ky i) < k))
def aft (C : List Int) (k : Int) (L : List Nat) : List Nat := L.dropWhile (fun i => decide (nth C (ky i) < k))
theorem fore_aft (C : List Int) (k : Int) (L : List Nat) : fore C k L ++ aft C k L = L := List.takeWhile_append_dropWhile
def wayE (C : List Int) (c : Nat) (M : List Nat) : Wy := match M with | [] => ⟨c, 0, false, 0, 0⟩ | i :: _ => ⟨c, i, true, i, nth C (ky i)⟩
def lcf (c : Nat) (L : List Nat) : Nat := match L.getLast? with | none => c | some i => nx i
theorem way_is (C : List Int) (k : Int) : ∀ (L : List Nat) (c : Nat), wayV C k c L = wayE C (lcf c (fore C k L)) (aft C k L)
  | [], c => rfl
  | i :: l, c => by
    unfold wayV
    by_cases hk : k ≤ nth C (ky i)
    · have e : decide (nth C (ky i) < k) = false := by simp; omega
      rw [if_pos hk]
      simp [fore, aft, e, lcf, wayE]
    · have e : decide (nth C (ky i) < k) = true := by simp; omega
      rw [if_neg hk, way_is C k l (nx i)]
      have e1 : fore C k (i :: l) = i :: fore C k l := by simp [fore, e]
      have e2 : aft C k (i :: l) = aft C k l := by simp [aft, e]
      rw [e1, e2]
      congr 1
      unfold lcf
      cases hf : (fore C k l).getLast? with
      | none =>
        have : fore C k l = [] := by simpa using hf
        rw [this]
        rfl
      | some j =>
        have hne : fore C k l ≠ [] := fun e => by rw [e] at hf; simp at hf
        rw [List.getLast?_cons, hf]
        rfl
/-! ### what is meant -/
def foK (k : Int) (K : List Int) : List Int := K.takeWhile (fun x => decide (x < k))
def afK (k : Int) (K : List Int) : List Int := K.dropWhile (fun x => decide (x < k))
theorem fo_kys (C : List Int) (k : Int) (L : List Nat) : foK k (kys C L) = kys C (fore C k L) := by
  unfold foK kys fore
  rw [List.takeWhile_map]
  rfl
theorem af_kys (C : List Int) (k : Int) (L : List Nat) : afK k (kys C L) = kys C (aft C k L) := by
  unfold afK kys aft
  rw [List.dropWhile_map]
  rfl
def thK (k : Int) (K : List Int) : Bool := match afK k K with | [] => false | x :: _ => decide (x = k)
def firK (K M : List Int) : List Int × Int × Int := match M with | [] => (K, 0, 1) | x :: _ => (K, x, 0)
/-- What a call does to rising keys. -/
def meanV (n : Nat) (call : Int) (A K : List Int) : List Int × Int × Int :=
  if call = 5 then (K, (K.length : Int), 0)
  else if call = 7 then firK K K
  else if call = 6 then (K, if thK (nth A 0) K = true then 1 else 0, 0)
  else if call = 1 then (if thK (nth A 0) K = true then (K, 0, 3) else if n ≤ K.length then (K, 0, 2) else (foK (nth A 0) K ++ nth A 0 :: afK (nth A 0) K, 0, 0))
  else if call = 4 then (if thK (nth A 0) K = true then (foK (nth A 0) K ++ (afK (nth A 0) K).tail, 0, 0) else (K, 0, 1))
  else firK K (if thK (nth A 0) K = true then (afK (nth A 0) K).tail else afK (nth A 0) K)
theorem at_is (C : List Int) (k : Int) (c : Nat) (L : List Nat) : wyAt (wayE C c (aft C k L)) k = thK k (kys C L) := by
  unfold thK
  rw [af_kys]
  cases aft C k L with
  | nil => rfl
  | cons i l =>
    show (true && decide (nth C (ky i) = k)) = decide (nth C (ky i) = k)
    rw [Bool.true_and]
theorem fore_all (C : List Int) (k : Int) (L : List Nat) : ∀ i ∈ fore C k L, nth C (ky i) < k := by
  induction L with
  | nil => intro i hi; simp [fore] at hi
  | cons j l ih =>
    intro i hi
    by_cases hj : nth C (ky j) < k
    · have e : fore C k (j :: l) = j :: fore C k l := by simp [fore, hj]
      rw [e] at hi
      rcases List.mem_cons.1 hi with rfl | hi
      · exact hj
      · exact ih i hi
    · have e : fore C k (j :: l) = [] := by simp [fore, hj]
      rw [e] at hi
      simp at hi
theorem aft_head {C : List Int} {k : Int} {L : List Nat} {i : Nat} {l : List Nat} (h : aft C k L = i :: l) : k ≤ nth C (ky i) := by
  have := List.head?_dropWhile_not (fun i => decide (nth C (ky i) < k)) L
  unfold aft at h
  rw [h] at this
  simpa using this
theorem mem_part {C : List Int} {k : Int} {L : List Nat} (i : Nat) : i ∈ L ↔ i ∈ fore C k L ∨ i ∈ aft C k L := by
  have := fore_aft C k L
  constructor
  · intro h; rw [← this] at h; simpa using h
  · intro h; rw [← this]; simpa using h
theorem last_mem {L : List Nat} {i : Nat} (h : L.getLast? = some i) : i ∈ L := List.mem_of_getLast? h
theorem dropl_ne {L : List Nat} {i j : Nat} (hn : L.Nodup) (hi : i ∈ L.dropLast) (hj : L.getLast? = some j) : i ≠ j := by
  intro e
  subst e
  have hne : L ≠ [] := fun e => by rw [e] at hj; simp at hj
  have e2 := List.dropLast_concat_getLast hne
  have e3 : L.getLast hne = i := by rw [List.getLast?_eq_some_getLast hne] at hj; simpa using hj
  rw [e3] at e2
  rw [← e2] at hn
  rw [List.nodup_append] at hn
  exact hn.2.2 i hi i (by simp) rfl
end Go.Proofs.Ytaffkcliepfcmaa.Ch
