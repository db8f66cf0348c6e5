/- Data: rows that are merged in their place: spans exchanged, turned, merged. -/
import Derived.Test.YtadollckekddgaaDoorHiSm
namespace Go.Proofs.YtadollckekddgaaDoor.Hi
set_option linter.unusedVariables false

/-- So many of two spans have changed places. -/
def sr (f : Nat → Nat) (a b i : Nat) : Nat → Nat := fun k => if a ≤ k ∧ k < a + i then f (k - a + b) else if b ≤ k ∧ k < b + i then f (k - b + a) else f k
theorem sr_zero (f : Nat → Nat) (a b : Nat) : sr f a b 0 = f := by
  funext k; unfold sr; rw [if_neg (by omega), if_neg (by omega)]
theorem sr_step (f : Nat → Nat) {a b i n : Nat} (h : a + n ≤ b) (hi : i < n) : swp (sr f a b i) (a + i) (b + i) = sr f a b (i + 1) := by
  funext k
  unfold swp sr
  repeat' split
  all_goals first | rfl | (congr 1; omega) | (exfalso; omega)
theorem sr_perm (f : Nat → Nat) {a b n lo hi : Nat} (h : a + n ≤ b) (hl : lo ≤ a) (hh : b + n ≤ hi) : ∀ i, i ≤ n → PermOn f (sr f a b i) lo hi
  | 0, _ => by rw [sr_zero]; exact PermOn.refl _ _ _
  | i + 1, hi' => by rw [← sr_step f h (show i < n by omega)]; exact (sr_perm f h hl hh i (by omega)).trans (PermOn.swp _ ⟨by omega, by omega⟩ ⟨by omega, by omega⟩)
/-- Two neighbours have changed places. -/
def rot (f : Nat → Nat) (a m b : Nat) : Nat → Nat := fun k => if a ≤ k ∧ k < a + (b - m) then f (k - a + m) else if a + (b - m) ≤ k ∧ k < b then f (k - (b - m)) else f k
theorem rot_gt (f : Nat → Nat) {a m b : Nat} (h1 : a < m) (h2 : m < b) (h : b - m < m - a) : rot (sr f a m (b - m)) (a + (b - m)) m b = rot f a m b := by
  funext k
  unfold rot sr
  repeat' split
  all_goals first | rfl | (congr 1; omega) | (exfalso; omega)
theorem rot_lt (f : Nat → Nat) {a m b : Nat} (h1 : a < m) (h2 : m < b) (h : m - a < b - m) : rot (sr f a (b - (m - a)) (m - a)) a m (b - (m - a)) = rot f a m b := by
  funext k
  unfold rot sr
  repeat' split
  all_goals first | rfl | (congr 1; omega) | (exfalso; omega)
theorem rot_eq (f : Nat → Nat) {a m b : Nat} (h1 : a < m) (h2 : m < b) (h : m - a = b - m) : sr f a m (m - a) = rot f a m b := by
  funext k
  unfold rot sr
  repeat' split
  all_goals first | rfl | (congr 1; omega) | (exfalso; omega)
theorem rot_left (f : Nat → Nat) (m b : Nat) (h : m ≤ b) : rot f m m b = f := by
  funext k
  unfold rot
  repeat' split
  all_goals first | rfl | (congr 1; omega) | (exfalso; omega)
theorem rot_right (f : Nat → Nat) (a m : Nat) (h : a ≤ m) : rot f a m m = f := by
  funext k
  unfold rot
  repeat' split
  all_goals first | rfl | (congr 1; omega) | (exfalso; omega)
/-- What stands where behind a turn. -/
theorem rot_at (f : Nat → Nat) {s m e mid : Nat} (hs : s ≤ m) (he : m ≤ e) (hm : mid + m = s + e) (k : Nat) :
    (k < s → rot f s m e k = f k) ∧ (s ≤ k → k < mid → rot f s m e k = f (k - s + m)) ∧ (mid ≤ k → k < e → rot f s m e k = f (k - mid + s)) ∧ (e ≤ k → rot f s m e k = f k) := by
  refine ⟨fun h => ?_, fun h1 h2 => ?_, fun h1 h2 => ?_, fun h => ?_⟩ <;> unfold rot <;> repeat' split
  all_goals first | rfl | (congr 1; omega) | (exfalso; omega)
/-- Numbers of one span are below those of another. -/
def Sep (f : Nat → Nat) (a m b : Nat) : Prop := ∀ i j, a ≤ i → i < m → m ≤ j → j < b → f i < f j
theorem sep_lt {ky : Nat → Int} {f : Nat → Nat} {a m b i j : Nat} (h : Sep f a m b) (h1 : a ≤ i) (h2 : i < m) (h3 : m ≤ j) (h4 : j < b) : ky (f j) < ky (f i) → tot ky (f j) (f i) := fun h => Or.inl h
theorem sep_ge {ky : Nat → Int} {f : Nat → Nat} {a m b i j : Nat} (h : Sep f a m b) (h1 : a ≤ i) (h2 : i < m) (h3 : m ≤ j) (h4 : j < b) : ¬ ky (f j) < ky (f i) → tot ky (f i) (f j) := fun hh => (tot_ge (h i j h1 h2 h3 h4)).2 hh
/-- Or the same. -/
theorem srt_le {ky : Nat → Int} {f : Nat → Nat} {a b i j : Nat} (h : Srt ky f a b) (h1 : a ≤ i) (h2 : i ≤ j) (h3 : j < b) {x : Nat} (k : tot ky (f j) x) : tot ky (f i) x := by
  by_cases e : i = j
  · rw [e]; exact k
  · exact tot_trans (h i j h1 (by omega) h3) k
theorem srt_ge {ky : Nat → Int} {f : Nat → Nat} {a b i j : Nat} (h : Srt ky f a b) (h1 : a ≤ i) (h2 : i ≤ j) (h3 : j < b) {x : Nat} (k : tot ky x (f i)) : tot ky x (f j) := by
  by_cases e : i = j
  · rw [← e]; exact k
  · exact tot_trans k (h i j h1 (by omega) h3)
/-- Where two rows are parted. -/
structure Prt (ky : Nat → Int) (f : Nat → Nat) (a m b mid s e : Nat) : Prop where
  am : a < m
  mb : m < b
  md : mid = (a + b) / 2
  sa : a ≤ s
  sm : s ≤ m
  smid : s ≤ mid
  ss : mid + m = s + e
  eb : e ≤ b
  s1 : Srt ky f a m
  s2 : Srt ky f m b
  sp : Sep f a m b
  lo : e = b ∨ s = a ∨ ¬ ky (f e) < ky (f (s - 1))
  hi : s = mid ∨ s = m ∨ ky (f (e - 1)) < ky (f s)
theorem Prt.em {ky : Nat → Int} {f : Nat → Nat} {a m b mid s e : Nat} (h : Prt ky f a m b mid s e) : m ≤ e ∧ mid ≤ e := by
  have := h.ss; have := h.smid; have := h.sm
  omega
theorem Prt.left {ky : Nat → Int} {f : Nat → Nat} {a m b mid s e : Nat} (h : Prt ky f a m b mid s e) : Srt ky (rot f s m e) a s ∧ Srt ky (rot f s m e) s mid ∧ Sep (rot f s m e) a s mid := by
  have hr := fun k => rot_at f h.sm h.em.1 h.ss k
  have h0 := h.em; have h1 := h.ss; have h2 := h.smid; have h3 := h.sm; have h4 := h.eb; have h5 := h.sa
  refine ⟨fun i j k1 k2 k3 => ?_, fun i j k1 k2 k3 => ?_, fun i j k1 k2 k3 k4 => ?_⟩
  · rw [(hr i).1 (by omega), (hr j).1 k3]; exact h.s1 i j k1 k2 (by omega)
  · rw [(hr i).2.1 k1 (by omega), (hr j).2.1 (by omega) k3]; exact h.s2 _ _ (by omega) (by omega) (by omega)
  · rw [(hr i).1 k2, (hr j).2.1 k3 k4]; exact h.sp _ _ k1 (by omega) (by omega) (by omega)
theorem Prt.right {ky : Nat → Int} {f : Nat → Nat} {a m b mid s e : Nat} (h : Prt ky f a m b mid s e) : Srt ky (rot f s m e) mid e ∧ Srt ky (rot f s m e) e b ∧ Sep (rot f s m e) mid e b := by
  have hr := fun k => rot_at f h.sm h.em.1 h.ss k
  have h0 := h.em; have h1 := h.ss; have h2 := h.smid; have h3 := h.sm; have h4 := h.eb; have h5 := h.sa
  refine ⟨fun i j k1 k2 k3 => ?_, fun i j k1 k2 k3 => ?_, fun i j k1 k2 k3 k4 => ?_⟩
  · rw [(hr i).2.2.1 k1 (by omega), (hr j).2.2.1 (by omega) k3]; exact h.s1 _ _ (by omega) (by omega) (by omega)
  · rw [(hr i).2.2.2 (by omega), (hr j).2.2.2 (by omega)]; exact h.s2 i j (by omega) k2 k3
  · rw [(hr i).2.2.1 k1 k2, (hr j).2.2.2 k3]; exact h.sp _ _ (by omega) (by omega) (by omega) k4
theorem Prt.cross {ky : Nat → Int} {f : Nat → Nat} {a m b mid s e : Nat} (h : Prt ky f a m b mid s e) : ∀ x y, a ≤ x → x < mid → mid ≤ y → y < b → tot ky (rot f s m e x) (rot f s m e y) := by
  have hr := fun k => rot_at f h.sm h.em.1 h.ss k
  have h0 := h.em; have h1 := h.ss; have h2 := h.smid; have h3 := h.sm; have h4 := h.eb; have h5 := h.sa
  intro x y k1 k2 k3 k4
  by_cases hx : x < s
  · rw [(hr x).1 hx]
    by_cases hy : y < e
    · rw [(hr y).2.2.1 k3 hy]; exact h.s1 _ _ k1 (by omega) (by omega)
    · rw [(hr y).2.2.2 (by omega)]
      have hq : tot ky (f (s - 1)) (f e) := sep_ge h.sp (by omega) (by omega) (by omega) (by omega) (by rcases h.lo with h | h | h; omega; omega; exact h)
      exact srt_ge h.s2 (by omega) (by omega) k4 (srt_le h.s1 k1 (by omega) (by omega) hq)
  · rw [(hr x).2.1 (by omega) k2]
    by_cases hy : y < e
    · rw [(hr y).2.2.1 k3 hy]
      have hq : tot ky (f (e - 1)) (f s) := Or.inl (by rcases h.hi with h | h | h; omega; omega; exact h)
      exact srt_ge h.s1 (by omega) (by omega) (by omega) (srt_le h.s2 (by omega) (by omega) (by omega) hq)
    · rw [(hr y).2.2.2 (by omega)]; exact h.s2 _ _ (by omega) (by omega) k4
theorem srt_join {ky : Nat → Int} {h : Nat → Nat} {a mid b : Nat} (h1 : Srt ky h a mid) (h2 : Srt ky h mid b) (hx : ∀ x y, a ≤ x → x < mid → mid ≤ y → y < b → tot ky (h x) (h y)) : Srt ky h a b := by
  intro i j k1 k2 k3
  by_cases hj : j < mid
  · exact h1 i j k1 k2 hj
  · by_cases hi : i < mid
    · exact hx i j k1 hi (by omega) k3
    · exact h2 i j (by omega) k2 k3
theorem cross_perm {ky : Nat → Int} {g h : Nat → Nat} {a mid b : Nat} (hx : ∀ x y, a ≤ x → x < mid → mid ≤ y → y < b → tot ky (g x) (g y)) (hp : PermOn g h a mid ∨ PermOn g h mid b) : ∀ x y, a ≤ x → x < mid → mid ≤ y → y < b → tot ky (h x) (h y) := by
  intro x y k1 k2 k3 k4
  rcases hp with hp | hp
  · rw [hp.out (Or.inr k3)]
    obtain ⟨q, hq, e⟩ := hp.mem ⟨k1, k2⟩
    rw [e]; exact hx q y hq.1 hq.2 k3 k4
  · rw [hp.out (Or.inl k2)]
    obtain ⟨q, hq, e⟩ := hp.mem ⟨k3, k4⟩
    rw [e]; exact hx x q k1 k2 hq.1 hq.2
/-- The first goes up behind so many. -/
def sh (f : Nat → Nat) (a q : Nat) : Nat → Nat := fun k => if a ≤ k ∧ k < q then f (k + 1) else if k = q then f a else f k
theorem sh_zero (f : Nat → Nat) (a : Nat) : sh f a a = f := by
  funext k; unfold sh; rw [if_neg (by omega)]; split
  · rename_i h; rw [h]
  · rfl
theorem sh_step (f : Nat → Nat) {a q : Nat} (h : a ≤ q) : swp (sh f a q) q (q + 1) = sh f a (q + 1) := by
  funext k
  unfold swp sh
  repeat' split
  all_goals first | rfl | (congr 1; omega) | (exfalso; omega)
theorem sh_perm (f : Nat → Nat) {a lo hi : Nat} (hl : lo ≤ a) : ∀ q, a ≤ q → q < hi → PermOn f (sh f a q) lo hi := by
  intro q
  induction q with
  | zero => intro h _; obtain rfl : a = 0 := by omega
            rw [sh_zero]; exact PermOn.refl _ _ _
  | succ q ih =>
    intro h h2
    by_cases e : a = q + 1
    · subst e; rw [sh_zero]; exact PermOn.refl _ _ _
    · rw [← sh_step f (show a ≤ q by omega)]
      exact (ih (by omega) (by omega)).trans (PermOn.swp _ ⟨by omega, by omega⟩ ⟨by omega, by omega⟩)
/-- The last goes down ahead of so many. -/
def sd (f : Nat → Nat) (m q : Nat) : Nat → Nat := fun k => if k = q then f m else if q < k ∧ k ≤ m then f (k - 1) else f k
theorem sd_zero (f : Nat → Nat) (m : Nat) : sd f m m = f := by
  funext k; unfold sd; split
  · rename_i h; rw [h]
  · rw [if_neg (by omega)]
theorem sd_step (f : Nat → Nat) {m q : Nat} (h : q < m) : swp (sd f m (q + 1)) (q + 1) q = sd f m q := by
  funext k
  unfold swp sd
  repeat' split
  all_goals first | rfl | (congr 1; omega) | (exfalso; omega)
theorem sd_perm (f : Nat → Nat) {m lo hi : Nat} (hh : m < hi) : ∀ d q, q + d = m → lo ≤ q → PermOn f (sd f m q) lo hi
  | 0, q, h, _ => by obtain rfl : q = m := by omega
                     rw [sd_zero]; exact PermOn.refl _ _ _
  | d + 1, q, h, hl => by
    rw [← sd_step f (show q < m by omega)]
    exact (sd_perm f hh d (q + 1) (by omega) (by omega)).trans (PermOn.swp _ ⟨by omega, by omega⟩ ⟨by omega, by omega⟩)
/-- One ahead of a row, put to its place. -/
theorem sh_srt {ky : Nat → Int} {f : Nat → Nat} {a b i : Nat} (hi : a + 1 ≤ i ∧ i ≤ b) (hs : Srt ky f (a + 1) b) (hsp : Sep f a (a + 1) b) (h1 : i = a + 1 ∨ ky (f (i - 1)) < ky (f a)) (h2 : i = b ∨ ¬ ky (f i) < ky (f a)) : Srt ky (sh f a (i - 1)) a b := by
  have up : ∀ k, a + 1 ≤ k → k < i → tot ky (f k) (f a) := fun k k1 k2 => srt_le hs k1 (show k ≤ i - 1 by omega) (by omega) (Or.inl (by rcases h1 with h | h; omega; exact h))
  have dn : ∀ k, i ≤ k → k < b → tot ky (f a) (f k) := fun k k1 k2 => srt_ge hs (by omega) k1 k2 ((tot_ge (hsp a i (Nat.le_refl _) (by omega) (by omega) (by omega))).2 (by rcases h2 with h | h; omega; exact h))
  intro x y k1 k2 k3
  unfold sh
  by_cases hx : x < i - 1
  · rw [if_pos ⟨k1, hx⟩]
    by_cases hy : y < i - 1
    · rw [if_pos ⟨by omega, hy⟩]; exact hs _ _ (by omega) (by omega) (by omega)
    · rw [if_neg (by omega)]
      by_cases e : y = i - 1
      · rw [if_pos e]; exact up _ (by omega) (by omega)
      · rw [if_neg e]; exact hs _ _ (by omega) (by omega) k3
  · rw [if_neg (by omega)]
    by_cases e : x = i - 1
    · rw [if_pos e, if_neg (by omega), if_neg (by omega)]; exact dn _ (by omega) k3
    · rw [if_neg e, if_neg (by omega), if_neg (by omega)]; exact hs _ _ (by omega) k2 k3
/-- One behind a row, put to its place. -/
theorem sd_srt {ky : Nat → Int} {f : Nat → Nat} {a m i : Nat} (hi : a ≤ i ∧ i ≤ m) (hs : Srt ky f a m) (hsp : Sep f a m (m + 1)) (h1 : i = a ∨ ¬ ky (f m) < ky (f (i - 1))) (h2 : i = m ∨ ky (f m) < ky (f i)) : Srt ky (sd f m i) a (m + 1) := by
  have dn : ∀ k, a ≤ k → k < i → tot ky (f k) (f m) := fun k k1 k2 => srt_le hs k1 (show k ≤ i - 1 by omega) (by omega) ((tot_ge (hsp (i - 1) m (by omega) (by omega) (Nat.le_refl _) (by omega))).2 (by rcases h1 with h | h; omega; exact h))
  have up : ∀ k, i ≤ k → k < m → tot ky (f m) (f k) := fun k k1 k2 => srt_ge hs (by omega) k1 k2 (Or.inl (by rcases h2 with h | h; omega; exact h))
  intro x y k1 k2 k3
  unfold sd
  by_cases hx : x < i
  · rw [if_neg (by omega), if_neg (by omega)]
    by_cases hy : y < i
    · rw [if_neg (by omega), if_neg (by omega)]; exact hs _ _ k1 k2 (by omega)
    · by_cases e : y = i
      · rw [if_pos e]; exact dn _ k1 hx
      · rw [if_neg e, if_pos ⟨by omega, by omega⟩]; exact hs _ _ k1 (by omega) (by omega)
  · by_cases e : x = i
    · rw [if_pos e, if_neg (by omega), if_pos ⟨by omega, by omega⟩]; exact up _ (by omega) (by omega)
    · rw [if_neg e, if_pos ⟨by omega, by omega⟩, if_neg (by omega), if_pos ⟨by omega, by omega⟩]; exact hs _ _ (by omega) (by omega) (by omega)
theorem rot_perm (f : Nat → Nat) {a m b lo hi : Nat} (hl : lo ≤ a) (hh : b ≤ hi) : a ≤ m → m ≤ b → PermOn f (rot f a m b) lo hi := by
  intro h1 h2
  refine ⟨fun k => if a ≤ k ∧ k < a + (b - m) then k - a + m else if a + (b - m) ≤ k ∧ k < b then k - (b - m) else k, fun k => if a ≤ k ∧ k < m then k + (b - m) else if m ≤ k ∧ k < b then k - m + a else k, ?_, ?_, ?_, ?_⟩
  · intro k; dsimp only; repeat' split
    all_goals first | rfl | omega
  · intro k; dsimp only; repeat' split
    all_goals first | rfl | omega
  · intro k hk; dsimp only; rw [if_neg (by omega), if_neg (by omega)]
  · intro k; unfold rot; dsimp only; repeat' split
    all_goals rfl
end Go.Proofs.YtadollckekddgaaDoor.Hi
